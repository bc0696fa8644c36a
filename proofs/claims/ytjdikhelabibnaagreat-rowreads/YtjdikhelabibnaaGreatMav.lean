/-
  
-/
import Derived.Test.YtjdikhelabibnaaGreatMau
import Derived.Test.YtjdikhelabibnaaGreatMat
namespace Go.Proofs.YtjdikhelabibnaaGreat
open Go.RowKit Go.Shelf
attribute [local go_sem] Oper.semAt_some
theorem sizeTH : (Tryz.prog.info? 57).map (·.size) = some 4 := by kernel_rfl
theorem sizeTT : (Tryz.prog.info? 101).map (·.size) = some 4 := by kernel_rfl
theorem range_blk {w : World} {b : Nat} {cs : Array Value} {ty : TypeId} (h : w.heap[b]? = some (.cells cs ty (0, 0))) : w.rangeAt b 0 cs.toList := by
 intro j v hj
 rw [Array.getElem?_toList] at hj
 rw [Nat.zero_add]
 exact cell_blk h hj
theorem load_TH {w : World} {b : Nat} {cs : Array Value} (h : w.heap[b]? = some (.cells cs 57 (0, 0))) (hs : cs.size = 4) : (loadVar 57 ⟨b, 0, none⟩).run Tryz.prog w = .ok (.agg cs) w :=
 run_loadVar_mid w b 0 57 cs.toList _ (range_blk h) Tryz.underlying57 rfl (by rw [sizeTH, Array.length_toList, hs])
theorem load_TE {w : World} {b : Nat} {cs : Array Value} (h : w.heap[b]? = some (.cells cs 44 (0, 0))) (hs : cs.size = 19) : (loadVar 44 ⟨b, 0, none⟩).run Tryz.prog w = .ok (.agg cs) w :=
 run_loadVar_mid w b 0 44 cs.toList _ (range_blk h) Tryz.underlying44 rfl (by rw [sizeTE, Array.length_toList, hs])
theorem load_TT {w : World} {b : Nat} {cs : Array Value} (h : w.heap[b]? = some (.cells cs 101 (0, 0))) (hs : cs.size = 4) : (loadVar 101 ⟨b, 0, none⟩).run Tryz.prog w = .ok (.agg cs) w :=
 run_loadVar_mid w b 0 101 cs.toList _ (range_blk h) Tryz.underlying101 rfl (by rw [sizeTT, Array.length_toList, hs])
def One (cs : Array Value) : Prop := ∀ (i : Nat) (v : Value), cs[i]? = some v → v.oneCell' = true
theorem One.all {cs : Array Value} (h : One cs) : cs.all (·.oneCell') = true := by
 rw [Array.all_eq_true]
 intro i hi
 exact h i _ (Array.getElem?_eq_getElem hi)
theorem One.set {cs : Array Value} (h : One cs) (o : Nat) {v : Value} (hv : v.oneCell' = true) : One (cs.setIfInBounds o v) := by
 intro i u hu
 rw [Array.getElem?_setIfInBounds] at hu
 split at hu
 ·split at hu
  ·cases hu; exact hv
  cases hu
 exact h i u hu
theorem One.sets (vs : List Value) : ∀ {cs : Array Value} (_ : One cs) (o : Nat), (∀ v ∈ vs, v.oneCell' = true) → One (csets cs o vs) := by
 induction vs with
 | nil => intro cs h o _; exact h
 | cons v vs ih => intro cs h o hv; exact ih (h.set o (hv v (by simp))) (o + 1) (fun u hu => hv u (by simp [hu]))
theorem one_list {l : List Value} (h : ∀ v ∈ l, v.oneCell' = true) : One l.toArray := by
 intro i v hv
 rw [List.getElem?_toArray] at hv
 exact h v (List.mem_of_getElem? hv)
theorem one_u8 {l : List Int} : ∀ v ∈ l.map (Value.int .u8), v.oneCell' = true := by
 intro v hv
 obtain ⟨x, _, rfl⟩ := List.mem_map.1 hv
 rfl
def zH : List (List Nat) := [[8], [1], [1], [1]]
def zE : List (List Nat) := [[1], [8], [8], List.replicate 16 1]
def zT : List (List Nat) := [List.replicate 4 1]
def stp (z : List (List Nat)) (s : List Int × Int) (k : Nat) : List Int × Int := rdS (z.take k).flatten s
theorem stp_succ {z : List (List Nat)} {s : List Int × Int} {k : Nat} (x : List Nat) (h : z[k]? = some x) : stp z s (k + 1) = rdS x (stp z s k) := by
 unfold stp
 rw [List.take_add_one, h, List.flatten_append, rdS_app]
 simp
theorem byt_stp {z : List (List Nat)} {s : List Int × Int} (k : Nat) (h : Byt s.1) : Byt (stp z s k).1 := byt_rdS h
def ceH (s : List Int × Int) : Nat → Array Value
 | 0 => headA 0 0 0 0
 | k + 1 => (ceH s k).setIfInBounds k (.int .i64 (rdV (if k = 0 then 8 else 1) (stp zH s k).1))
def ceE (s : List Int × Int) : Nat → Array Value
 | 0 => entA 0 0 0 zer16
 | k + 1 => if k = 3 then csets (ceE s k) 3 ((rdL (List.replicate 16 1) (stp zE s k)).map (Value.int .u8)) else (ceE s k).setIfInBounds k (.int .i64 (rdV (if k = 0 then 1 else 8) (stp zE s k).1))
def ceT (s : List Int × Int) : Nat → Array Value
 | 0 => tailA [0, 0, 0, 0]
 | k + 1 => if k = 0 then csets (ceT s k) 0 ((rdL (List.replicate 4 1) (stp zT s k)).map (Value.int .u8)) else ceT s k
theorem ceH_size (s : List Int × Int) (k : Nat) : (ceH s k).size = 4 := by
 induction k with
 | zero => rfl
 | succ k ih => rw [ceH, Array.size_setIfInBounds, ih]
theorem ceE_size (s : List Int × Int) (k : Nat) : (ceE s k).size = 19 := by
 induction k with
 | zero => rfl
 | succ k ih =>
  rw [ceE]
  split
  ·rw [csets_size, ih]
  rw [Array.size_setIfInBounds, ih]
theorem ceT_size (s : List Int × Int) (k : Nat) : (ceT s k).size = 4 := by
 induction k with
 | zero => rfl
 | succ k ih =>
  rw [ceT]
  split
  ·rw [csets_size, ih]
  exact ih
theorem ceE_last (s : List Int × Int) : ceE s 4 = csets (ceE s 3) 3 ((rdL (List.replicate 16 1) (stp zE s 3)).map (Value.int .u8)) := by rw [ceE, if_pos rfl]
theorem ceT_last (s : List Int × Int) : ceT s 1 = csets (ceT s 0) 0 ((rdL (List.replicate 4 1) (stp zT s 0)).map (Value.int .u8)) := if_pos rfl
theorem ceH_one (s : List Int × Int) (k : Nat) : One (ceH s k) := by
 induction k with
 | zero => exact one_list (l := [.int .i64 0, .int .i64 0, .int .i64 0, .int .i64 0]) (by simp [Value.oneCell'])
 | succ k ih => rw [ceH]; exact ih.set _ rfl
theorem ceE_one (s : List Int × Int) (k : Nat) : One (ceE s k) := by
 induction k with
 | zero =>
  intro i v h
  have := entA_one 0 0 0 zer16
  rw [Array.all_eq_true] at this
  obtain ⟨hi, rfl⟩ := Array.getElem?_eq_some_iff.1 h
  exact this i hi
 | succ k ih =>
  rw [ceE]
  split
  ·exact One.sets _ ih _ one_u8
  exact ih.set _ rfl
theorem ceT_one (s : List Int × Int) (k : Nat) : One (ceT s k) := by
 induction k with
 | zero => exact one_list (l := datL [0, 0, 0, 0]) one_u8
 | succ k ih =>
  rw [ceT]
  split
  ·exact One.sets _ ih _ one_u8
  exact ih
theorem cexE (s : List Int × Int) (j : Nat) (hj : j < 16) : ∃ x0, (ceE s 3)[3 + j]? = some (.int .u8 x0) := by
 have e : ceE s 3 = (((entA 0 0 0 zer16).setIfInBounds 0 (.int .i64 (rdV 1 (stp zE s 0).1))).setIfInBounds 1 (.int .i64 (rdV 8 (stp zE s 1).1))).setIfInBounds 2 (.int .i64 (rdV 8 (stp zE s 2).1)) := rfl
 rw [e, Array.getElem?_setIfInBounds, if_neg (by omega), Array.getElem?_setIfInBounds, if_neg (by omega), Array.getElem?_setIfInBounds, if_neg (by omega), entA_d, datL_get (by rw [zer16_len]; exact hj)]
 exact ⟨_, rfl⟩
theorem cexT (s : List Int × Int) (j : Nat) (hj : j < 4) : ∃ x0, (ceT s 0)[0 + j]? = some (.int .u8 x0) := by
 refine ⟨((cf [0, 0, 0, 0] j : Nat) : Int), ?_⟩
 rw [Nat.zero_add]
 show (datL [0, 0, 0, 0]).toArray[j]? = _
 rw [List.getElem?_toArray]
 exact datL_get hj
set_option maxRecDepth 100000 in
set_option maxHeartbeats 8000000 in
theorem readH_any (L : Nat) (c : Nat → Nat) (R g : Nat) (zs : List Int) (e : Int) (w : World) (hg : g < w.heap.size) (hby : Byt zs) (hR : Rd 186 w R g zs e) (hL : LayH w L c) (hLR : L ≠ R) (hcR : ∀ i, i < 4 → c i ≠ R) :
  Calls Tryz.prog 104 #[.slice (some ⟨L, 0, none⟩) 4 4, .pointer (some ⟨R, 0, none⟩)] w fun x w' => x = .returned (.agg (ceH (zs, e) 4)) ∧ Rd 186 w' R g (stp zH (zs, e) 4).1 (stp zH (zs, e) 4).2 ∧ Kp [R] w w' := by
 have HR := hide hR
 have HL := hide hL
 have HY := hide hby
 have HRR : Hid (R < w.heap.size) := by obtain ⟨_, _, _, h, _⟩ := hR; exact lt_of_block h
 clear hR hL hby
 go_enter Tryz.func104, Tryz.ntmps104
 go_wp2_with fail
 obtain ⟨w1, hw1⟩ : ∃ w1, (w.alloc (.cells #[.int .i64 0, .int .i64 0, .int .i64 0, .int .i64 0] 57)).alloc (.cells #[.int .i64 0, .int .i64 0, .int .i64 0, .int .i64 0] 57) = w1 := ⟨_, rfl⟩
 have HK1 : Hid (Kp [] w w1) := by rw [← hw1]; exact ((Kp.refl [] w).alloc _).alloc _
 have HB0 : Hid (w1.heap[w.heap.size]? = some (.cells (headA 0 0 0 0) 57 (0, 0))) := by rw [← hw1]; exact (Below.heap_alloc _ _ _ (by simp)).trans (World.alloc_heap_new w _)
 have HB : Hid (w1.heap[w.heap.size + 1]? = some (.cells (headA 0 0 0 0) 57 (0, 0))) := by
  rw [← hw1]
  have := World.alloc_heap_new (w.alloc (.cells (headA 0 0 0 0) 57)) (.cells (headA 0 0 0 0) 57)
  rwa [World.size_alloc] at this
 have hz1 : w1.heap.size = w.heap.size + 2 := by rw [← hw1]; simp
 rw [hw1]
 clear hw1
 have HR1 : Hid (Rd 186 w1 R g zs e) := (uh HR).keep (uh HK1) (by simp) (by simp)
 have HL1 : Hid (LayH w1 L c) := (uh HL).keep (uh HK1).below
 have hBR : w.heap.size + 1 ≠ R := by have := uh HRR; omega
 have HLB : Hid (L < w.heap.size) := lt_of_block (uh HL).blk
 have HCB : Hid (∀ i, i < 4 → c i < w.heap.size) := fun i hi => match i, hi with | 0, _ => (by have := block_lt_of_cell (uh HL).c0; exact this) | 1, _ => (by have := block_lt_of_cell (uh HL).c1; exact this) | 2, _ => (by have := block_lt_of_cell (uh HL).c2; exact this) | 3, _ => (by have := block_lt_of_cell (uh HL).c3; exact this)
 obtain ⟨B, hB⟩ : ∃ B, w.heap.size + 1 = B := ⟨_, rfl⟩
 rw [hB] at HB hBR ⊢
 obtain ⟨B0, hB0⟩ : ∃ B0, w.heap.size = B0 := ⟨_, rfl⟩
 rw [hB0] at HB0 ⊢
 go_loopw [10] (fun i wr => ∃ (k : Nat), k ≤ 4 ∧ i = .int .i64 k ∧ Kp [R, B] w1 wr ∧ Rd 186 wr R g (stp zH (zs, e) k).1 (stp zH (zs, e) k).2 ∧ wr.heap[B]? = some (.cells (ceH (zs, e) k) 57 (0, 0))) (fun i _ => 4 - (intOf i).toNat)
 case atStart => exact ⟨0, by omega, rfl, Kp.refl _ _, uh HR1, uh HB⟩
 case round =>
  obtain ⟨k, hk, rfl, hK, hr, hb⟩ := hrel
  have HK := hide hK
  have HR2 := hide hr
  have HB2 := hide hb
  have HY2 : Hid (Byt (stp zH (zs, e) k).1) := byt_stp k (uh HY)
  have HS2 : Hid ((ceH (zs, e) k).size = 4) := ceH_size _ _
  have hq : ∀ (j : Nat) v, (#[.func (.func 114) #[] #[.pointer (some ⟨c 0, 0, none⟩)], .func (.func 116) #[] #[.pointer (some ⟨c 0, 0, none⟩)], .func (.func 118) #[] #[.pointer (some ⟨c 1, 0, none⟩)], .func (.func 120) #[] #[.pointer (some ⟨c 1, 0, none⟩)], .func (.func 118) #[] #[.pointer (some ⟨c 2, 0, none⟩)], .func (.func 120) #[] #[.pointer (some ⟨c 2, 0, none⟩)], .func (.func 118) #[] #[.pointer (some ⟨c 3, 0, none⟩)], .func (.func 120) #[] #[.pointer (some ⟨c 3, 0, none⟩)]] : Array Value)[j]? = some v → wr.cell? ⟨L, j, none⟩ = some v := fun j v h => hK.cell (cell_blk (uh HL1).blk h) (by have := uh HLB; simp; omega)
  have HQ := hide hq
  have HC : Hid (∀ i v, i < 4 → w1.cell? ⟨c i, 0, none⟩ = some v → wr.cell? ⟨c i, 0, none⟩ = some v) := fun i v hi h => hK.cell h (by have h1 := uh HCB i hi; have h2 := hcR i hi; simp; omega)
  have HGB : Hid (B ≠ g) := by have := hg; unfold Hid; omega
  clear hK hr hb hq
  by_cases hlt : k < 4
  ·match k, hlt with
   | 0, _ =>
    have q0 : wr.cell? ⟨L, 0, none⟩ = some (.func (.func 114) #[] #[.pointer (some ⟨c 0, 0, none⟩)]) := uh HQ 0 _ rfl
    have q1 : wr.cell? ⟨L, 1, none⟩ = some (.func (.func 116) #[] #[.pointer (some ⟨c 0, 0, none⟩)]) := uh HQ 1 _ rfl
    go_wp2_with fail
    refine (take_numH 78 (c 0) B 0 R g (ceH (zs, e) 0) 57 _ _ _ at_h0.1 at_h0.2 (((Kp.refl [] wr).alloc _).cell (uh HC 0 _ (by omega) (uh HL1).c0) (by simp)) 0 (by rfl) (((Kp.refl [] wr).alloc _).heap (uh HB2) (by simp)) (uh HY2) ((uh HR2).keep ((Kp.refl [] wr).alloc _) (by simp) (by simp)) hBR).mono ?_
    rintro x w2 ⟨rfl, hr3, hb3, hk3⟩
    have HR3 := hide (hr3 (uh HGB))
    have HB3 := hide hb3
    have HK3 : Hid (Kp [R, B] w1 w2) := ((uh HK).alloc _).trans hk3 (by simp)
    clear hr3 hb3 hk3
    go_wp2
    go_roundw
    case rel => exact ⟨1, by omega, by go_num, uh HK3, by rw [stp_succ _ rfl]; exact uh HR3, uh HB3⟩
    case measure => simp [intOf] <;> omega
   | 1, _ =>
    have q0 : wr.cell? ⟨L, 2, none⟩ = some (.func (.func 118) #[] #[.pointer (some ⟨c 1, 0, none⟩)]) := uh HQ 2 _ rfl
    have q1 : wr.cell? ⟨L, 3, none⟩ = some (.func (.func 120) #[] #[.pointer (some ⟨c 1, 0, none⟩)]) := uh HQ 3 _ rfl
    go_wp2_with fail
    refine (take_lowH 80 (c 1) B 1 R g (ceH (zs, e) 1) 57 _ _ _ at_h1.1 at_h1.2 (((Kp.refl [] wr).alloc _).cell (uh HC 1 _ (by omega) (uh HL1).c1) (by simp)) 0 (by rfl) (((Kp.refl [] wr).alloc _).heap (uh HB2) (by simp)) (uh HY2) ((uh HR2).keep ((Kp.refl [] wr).alloc _) (by simp) (by simp)) hBR).mono ?_
    rintro x w2 ⟨rfl, hr3, hb3, hk3⟩
    have HR3 := hide (hr3 (uh HGB))
    have HB3 := hide hb3
    have HK3 : Hid (Kp [R, B] w1 w2) := ((uh HK).alloc _).trans hk3 (by simp)
    clear hr3 hb3 hk3
    go_wp2
    go_roundw
    case rel => exact ⟨2, by omega, by go_num, uh HK3, by rw [stp_succ _ rfl]; exact uh HR3, uh HB3⟩
    case measure => simp [intOf] <;> omega
   | 2, _ =>
    have q0 : wr.cell? ⟨L, 4, none⟩ = some (.func (.func 118) #[] #[.pointer (some ⟨c 2, 0, none⟩)]) := uh HQ 4 _ rfl
    have q1 : wr.cell? ⟨L, 5, none⟩ = some (.func (.func 120) #[] #[.pointer (some ⟨c 2, 0, none⟩)]) := uh HQ 5 _ rfl
    go_wp2_with fail
    refine (take_lowH 81 (c 2) B 2 R g (ceH (zs, e) 2) 57 _ _ _ at_h2.1 at_h2.2 (((Kp.refl [] wr).alloc _).cell (uh HC 2 _ (by omega) (uh HL1).c2) (by simp)) 0 (by rfl) (((Kp.refl [] wr).alloc _).heap (uh HB2) (by simp)) (uh HY2) ((uh HR2).keep ((Kp.refl [] wr).alloc _) (by simp) (by simp)) hBR).mono ?_
    rintro x w2 ⟨rfl, hr3, hb3, hk3⟩
    have HR3 := hide (hr3 (uh HGB))
    have HB3 := hide hb3
    have HK3 : Hid (Kp [R, B] w1 w2) := ((uh HK).alloc _).trans hk3 (by simp)
    clear hr3 hb3 hk3
    go_wp2
    go_roundw
    case rel => exact ⟨3, by omega, by go_num, uh HK3, by rw [stp_succ _ rfl]; exact uh HR3, uh HB3⟩
    case measure => simp [intOf] <;> omega
   | 3, _ =>
    have q0 : wr.cell? ⟨L, 6, none⟩ = some (.func (.func 118) #[] #[.pointer (some ⟨c 3, 0, none⟩)]) := uh HQ 6 _ rfl
    have q1 : wr.cell? ⟨L, 7, none⟩ = some (.func (.func 120) #[] #[.pointer (some ⟨c 3, 0, none⟩)]) := uh HQ 7 _ rfl
    go_wp2_with fail
    refine (take_lowH 82 (c 3) B 3 R g (ceH (zs, e) 3) 57 _ _ _ at_h3.1 at_h3.2 (((Kp.refl [] wr).alloc _).cell (uh HC 3 _ (by omega) (uh HL1).c3) (by simp)) 0 (by rfl) (((Kp.refl [] wr).alloc _).heap (uh HB2) (by simp)) (uh HY2) ((uh HR2).keep ((Kp.refl [] wr).alloc _) (by simp) (by simp)) hBR).mono ?_
    rintro x w2 ⟨rfl, hr3, hb3, hk3⟩
    have HR3 := hide (hr3 (uh HGB))
    have HB3 := hide hb3
    have HK3 : Hid (Kp [R, B] w1 w2) := ((uh HK).alloc _).trans hk3 (by simp)
    clear hr3 hb3 hk3
    go_wp2
    go_roundw
    case rel => exact ⟨4, by omega, by go_num, uh HK3, by rw [stp_succ _ rfl]; exact uh HR3, uh HB3⟩
    case measure => simp [intOf] <;> omega
  have : k = 4 := by omega
  subst this
  have HZ0 : Hid (wr.heap[B0]? = some (.cells (headA 0 0 0 0) 57 (0, 0))) := (uh HK).heap (uh HB0) (by have h1 := uh HRR; simp; omega)
  go_wp2_with (first | (refine wpList_load_row rfl 57 _ rfl B rfl 57 (ceH (zs, e) 4) _ _ (uh HB2) Tryz.underlying57 rfl (by rw [sizeTH, uh HS2]) ?_) | (refine wpList_store_row rfl 57 _ _ rfl B0 (ceH (zs, e) 4) rfl rfl 57 (headA 0 0 0 0) (uh HZ0) (by rw [sizeTH, uh HS2]) (by rw [uh HS2]; rfl) (ceH_one _ _).all ?_))
  have H9 := setRow_heap wr B0 _ (ceH (zs, e) 4) 57 _ (uh HZ0)
  refine bodyPost_ret (results_cell7 rfl _ _ ⟨B0, 0, none⟩ _ rfl (load_TH H9 (uh HS2))) rfl ?_
  have hk9 : Kp [B0] wr (wr.setRow B0 (ceH (zs, e) 4)) := ⟨rfl, rfl, rfl, by simp, fun k _ h => setRow_other _ _ k _ (by simpa using h)⟩
  refine ⟨rfl, (uh HR2).keep hk9 (by have := uh HRR; simp; omega) (by simp; omega), ?_⟩
  have k1 : Kp [R] w wr := ((uh HK1).mono (S' := [R]) (by simp)).trans (uh HK) (fun x hx => by
   simp at hx
   rcases hx with rfl | rfl
   ·exact .inl (by simp)
   exact .inr (by omega))
  exact k1.trans hk9 (fun x hx => .inr (by simp at hx; omega))
set_option maxRecDepth 100000 in
set_option maxHeartbeats 8000000 in
theorem readE_any (L : Nat) (c : Nat → Nat) (R g : Nat) (zs : List Int) (e : Int) (w : World) (hg : g < w.heap.size) (hby : Byt zs) (hR : Rd 186 w R g zs e) (hL : LayE w L c) (hLR : L ≠ R) (hcR : ∀ i, i < 4 → c i ≠ R) :
  Calls Tryz.prog 105 #[.slice (some ⟨L, 0, none⟩) 4 4, .pointer (some ⟨R, 0, none⟩)] w fun x w' => x = .returned (.agg (ceE (zs, e) 4)) ∧ Rd 186 w' R g (stp zE (zs, e) 4).1 (stp zE (zs, e) 4).2 ∧ Kp [R] w w' := by
 have HR := hide hR
 have HL := hide hL
 have HY := hide hby
 have HRR : Hid (R < w.heap.size) := by obtain ⟨_, _, _, h, _⟩ := hR; exact lt_of_block h
 clear hR hL hby
 go_enter Tryz.func105, Tryz.ntmps105
 go_wp2_with fail
 obtain ⟨w1, hw1⟩ : ∃ w1, (w.alloc (.cells #[.int .i64 0, .int .i64 0, .int .i64 0, .int .u8 0, .int .u8 0, .int .u8 0, .int .u8 0, .int .u8 0, .int .u8 0, .int .u8 0, .int .u8 0, .int .u8 0, .int .u8 0, .int .u8 0, .int .u8 0, .int .u8 0, .int .u8 0, .int .u8 0, .int .u8 0] 44)).alloc (.cells #[.int .i64 0, .int .i64 0, .int .i64 0, .int .u8 0, .int .u8 0, .int .u8 0, .int .u8 0, .int .u8 0, .int .u8 0, .int .u8 0, .int .u8 0, .int .u8 0, .int .u8 0, .int .u8 0, .int .u8 0, .int .u8 0, .int .u8 0, .int .u8 0, .int .u8 0] 44) = w1 := ⟨_, rfl⟩
 have HK1 : Hid (Kp [] w w1) := by rw [← hw1]; exact ((Kp.refl [] w).alloc _).alloc _
 have HB0 : Hid (w1.heap[w.heap.size]? = some (.cells (entA 0 0 0 zer16) 44 (0, 0))) := by rw [← hw1]; exact (Below.heap_alloc _ _ _ (by simp)).trans (World.alloc_heap_new w _)
 have HB : Hid (w1.heap[w.heap.size + 1]? = some (.cells (entA 0 0 0 zer16) 44 (0, 0))) := by
  rw [← hw1]
  have := World.alloc_heap_new (w.alloc (.cells (entA 0 0 0 zer16) 44)) (.cells (entA 0 0 0 zer16) 44)
  rwa [World.size_alloc] at this
 have hz1 : w1.heap.size = w.heap.size + 2 := by rw [← hw1]; simp
 rw [hw1]
 clear hw1
 have HR1 : Hid (Rd 186 w1 R g zs e) := (uh HR).keep (uh HK1) (by simp) (by simp)
 have HL1 : Hid (LayE w1 L c) := (uh HL).keep (uh HK1).below
 have hBR : w.heap.size + 1 ≠ R := by have := uh HRR; omega
 have HLB : Hid (L < w.heap.size) := lt_of_block (uh HL).blk
 have HCB : Hid (∀ i, i < 4 → c i < w.heap.size) := fun i hi => match i, hi with | 0, _ => (by have := block_lt_of_cell (uh HL).c0; exact this) | 1, _ => (by have := block_lt_of_cell (uh HL).c1; exact this) | 2, _ => (by have := block_lt_of_cell (uh HL).c2; exact this) | 3, _ => (by have := block_lt_of_cell (uh HL).c3; exact this)
 obtain ⟨B, hB⟩ : ∃ B, w.heap.size + 1 = B := ⟨_, rfl⟩
 rw [hB] at HB hBR ⊢
 obtain ⟨B0, hB0⟩ : ∃ B0, w.heap.size = B0 := ⟨_, rfl⟩
 rw [hB0] at HB0 ⊢
 go_loopw [10] (fun i wr => ∃ (k : Nat), k ≤ 4 ∧ i = .int .i64 k ∧ Kp [R, B] w1 wr ∧ Rd 186 wr R g (stp zE (zs, e) k).1 (stp zE (zs, e) k).2 ∧ wr.heap[B]? = some (.cells (ceE (zs, e) k) 44 (0, 0))) (fun i _ => 4 - (intOf i).toNat)
 case atStart => exact ⟨0, by omega, rfl, Kp.refl _ _, uh HR1, uh HB⟩
 case round =>
  obtain ⟨k, hk, rfl, hK, hr, hb⟩ := hrel
  have HK := hide hK
  have HR2 := hide hr
  have HB2 := hide hb
  have HY2 : Hid (Byt (stp zE (zs, e) k).1) := byt_stp k (uh HY)
  have HS2 : Hid ((ceE (zs, e) k).size = 19) := ceE_size _ _
  have hq : ∀ (j : Nat) v, (#[.func (.func 122) #[] #[.pointer (some ⟨c 0, 0, none⟩)], .func (.func 123) #[] #[.pointer (some ⟨c 0, 0, none⟩)], .func (.func 124) #[] #[.pointer (some ⟨c 1, 0, none⟩)], .func (.func 125) #[] #[.pointer (some ⟨c 1, 0, none⟩)], .func (.func 124) #[] #[.pointer (some ⟨c 2, 0, none⟩)], .func (.func 125) #[] #[.pointer (some ⟨c 2, 0, none⟩)], .func (.func 126) #[] #[.pointer (some ⟨c 3, 0, none⟩)], .func (.func 127) #[] #[.pointer (some ⟨c 3, 0, none⟩)]] : Array Value)[j]? = some v → wr.cell? ⟨L, j, none⟩ = some v := fun j v h => hK.cell (cell_blk (uh HL1).blk h) (by have := uh HLB; simp; omega)
  have HQ := hide hq
  have HC : Hid (∀ i v, i < 4 → w1.cell? ⟨c i, 0, none⟩ = some v → wr.cell? ⟨c i, 0, none⟩ = some v) := fun i v hi h => hK.cell h (by have h1 := uh HCB i hi; have h2 := hcR i hi; simp; omega)
  have HGB : Hid (B ≠ g) := by have := hg; unfold Hid; omega
  clear hK hr hb hq
  by_cases hlt : k < 4
  ·match k, hlt with
   | 0, _ =>
    have q0 : wr.cell? ⟨L, 0, none⟩ = some (.func (.func 122) #[] #[.pointer (some ⟨c 0, 0, none⟩)]) := uh HQ 0 _ rfl
    have q1 : wr.cell? ⟨L, 1, none⟩ = some (.func (.func 123) #[] #[.pointer (some ⟨c 0, 0, none⟩)]) := uh HQ 1 _ rfl
    go_wp2_with fail
    refine (take_lowE 84 (c 0) B 0 R g (ceE (zs, e) 0) 44 _ _ _ at_e0.1 at_e0.2 (((Kp.refl [] wr).alloc _).cell (uh HC 0 _ (by omega) (uh HL1).c0) (by simp)) 0 (by rfl) (((Kp.refl [] wr).alloc _).heap (uh HB2) (by simp)) (uh HY2) ((uh HR2).keep ((Kp.refl [] wr).alloc _) (by simp) (by simp)) hBR).mono ?_
    rintro x w2 ⟨rfl, hr3, hb3, hk3⟩
    have HR3 := hide (hr3 (uh HGB))
    have HB3 := hide hb3
    have HK3 : Hid (Kp [R, B] w1 w2) := ((uh HK).alloc _).trans hk3 (by simp)
    clear hr3 hb3 hk3
    go_wp2
    go_roundw
    case rel => exact ⟨1, by omega, by go_num, uh HK3, by rw [stp_succ _ rfl]; exact uh HR3, uh HB3⟩
    case measure => simp [intOf] <;> omega
   | 1, _ =>
    have q0 : wr.cell? ⟨L, 2, none⟩ = some (.func (.func 124) #[] #[.pointer (some ⟨c 1, 0, none⟩)]) := uh HQ 2 _ rfl
    have q1 : wr.cell? ⟨L, 3, none⟩ = some (.func (.func 125) #[] #[.pointer (some ⟨c 1, 0, none⟩)]) := uh HQ 3 _ rfl
    go_wp2_with fail
    refine (take_numE 86 (c 1) B 1 R g (ceE (zs, e) 1) 44 _ _ _ at_e1.1 at_e1.2 (((Kp.refl [] wr).alloc _).cell (uh HC 1 _ (by omega) (uh HL1).c1) (by simp)) 0 (by rfl) (((Kp.refl [] wr).alloc _).heap (uh HB2) (by simp)) (uh HY2) ((uh HR2).keep ((Kp.refl [] wr).alloc _) (by simp) (by simp)) hBR).mono ?_
    rintro x w2 ⟨rfl, hr3, hb3, hk3⟩
    have HR3 := hide (hr3 (uh HGB))
    have HB3 := hide hb3
    have HK3 : Hid (Kp [R, B] w1 w2) := ((uh HK).alloc _).trans hk3 (by simp)
    clear hr3 hb3 hk3
    go_wp2
    go_roundw
    case rel => exact ⟨2, by omega, by go_num, uh HK3, by rw [stp_succ _ rfl]; exact uh HR3, uh HB3⟩
    case measure => simp [intOf] <;> omega
   | 2, _ =>
    have q0 : wr.cell? ⟨L, 4, none⟩ = some (.func (.func 124) #[] #[.pointer (some ⟨c 2, 0, none⟩)]) := uh HQ 4 _ rfl
    have q1 : wr.cell? ⟨L, 5, none⟩ = some (.func (.func 125) #[] #[.pointer (some ⟨c 2, 0, none⟩)]) := uh HQ 5 _ rfl
    go_wp2_with fail
    refine (take_numE 87 (c 2) B 2 R g (ceE (zs, e) 2) 44 _ _ _ at_e2.1 at_e2.2 (((Kp.refl [] wr).alloc _).cell (uh HC 2 _ (by omega) (uh HL1).c2) (by simp)) 0 (by rfl) (((Kp.refl [] wr).alloc _).heap (uh HB2) (by simp)) (uh HY2) ((uh HR2).keep ((Kp.refl [] wr).alloc _) (by simp) (by simp)) hBR).mono ?_
    rintro x w2 ⟨rfl, hr3, hb3, hk3⟩
    have HR3 := hide (hr3 (uh HGB))
    have HB3 := hide hb3
    have HK3 : Hid (Kp [R, B] w1 w2) := ((uh HK).alloc _).trans hk3 (by simp)
    clear hr3 hb3 hk3
    go_wp2
    go_roundw
    case rel => exact ⟨3, by omega, by go_num, uh HK3, by rw [stp_succ _ rfl]; exact uh HR3, uh HB3⟩
    case measure => simp [intOf] <;> omega
   | 3, _ =>
    have q0 : wr.cell? ⟨L, 6, none⟩ = some (.func (.func 126) #[] #[.pointer (some ⟨c 3, 0, none⟩)]) := uh HQ 6 _ rfl
    have q1 : wr.cell? ⟨L, 7, none⟩ = some (.func (.func 127) #[] #[.pointer (some ⟨c 3, 0, none⟩)]) := uh HQ 7 _ rfl
    go_wp2_with fail
    refine (take_sevE 89 (c 3) B 3 16 R g (ceE (zs, e) 3) 44 _ _ _ at_e3.1 at_e3.2 (by omega) (((Kp.refl [] wr).alloc _).cell (uh HC 3 _ (by omega) (uh HL1).c3) (by simp)) (cexE (zs, e)) (((Kp.refl [] wr).alloc _).heap (uh HB2) (by simp)) (uh HY2) ((uh HR2).keep ((Kp.refl [] wr).alloc _) (by simp) (by simp)) hBR (uh HGB)).mono ?_
    rintro x w2 ⟨rfl, hr3, hb3, hk3⟩
    have HR3 := hide hr3
    have HB3 := hide hb3
    have HK3 : Hid (Kp [R, B] w1 w2) := ((uh HK).alloc _).trans hk3 (by simp)
    clear hr3 hb3 hk3
    go_wp2
    go_roundw
    case rel => exact ⟨4, by omega, by go_num, uh HK3, by rw [stp_succ (List.replicate 16 1) rfl]; exact uh HR3, by rw [ceE_last]; exact uh HB3⟩
    case measure => simp [intOf] <;> omega
  have : k = 4 := by omega
  subst this
  have HZ0 : Hid (wr.heap[B0]? = some (.cells (entA 0 0 0 zer16) 44 (0, 0))) := (uh HK).heap (uh HB0) (by have h1 := uh HRR; simp; omega)
  go_wp2_with (first | (refine wpList_load_row rfl 44 _ rfl B rfl 44 (ceE (zs, e) 4) _ _ (uh HB2) Tryz.underlying44 rfl (by rw [sizeTE, uh HS2]) ?_) | (refine wpList_store_row rfl 44 _ _ rfl B0 (ceE (zs, e) 4) rfl rfl 44 (entA 0 0 0 zer16) (uh HZ0) (by rw [sizeTE, uh HS2]) (by rw [uh HS2]; rfl) (ceE_one _ _).all ?_))
  have H9 := setRow_heap wr B0 _ (ceE (zs, e) 4) 44 _ (uh HZ0)
  refine bodyPost_ret (results_cell7 rfl _ _ ⟨B0, 0, none⟩ _ rfl (load_TE H9 (uh HS2))) rfl ?_
  have hk9 : Kp [B0] wr (wr.setRow B0 (ceE (zs, e) 4)) := ⟨rfl, rfl, rfl, by simp, fun k _ h => setRow_other _ _ k _ (by simpa using h)⟩
  refine ⟨rfl, (uh HR2).keep hk9 (by have := uh HRR; simp; omega) (by simp; omega), ?_⟩
  have k1 : Kp [R] w wr := ((uh HK1).mono (S' := [R]) (by simp)).trans (uh HK) (fun x hx => by
   simp at hx
   rcases hx with rfl | rfl
   ·exact .inl (by simp)
   exact .inr (by omega))
  exact k1.trans hk9 (fun x hx => .inr (by simp at hx; omega))
set_option maxRecDepth 100000 in
set_option maxHeartbeats 8000000 in
theorem readT_any (L : Nat) (c : Nat → Nat) (R g : Nat) (zs : List Int) (e : Int) (w : World) (hg : g < w.heap.size) (hby : Byt zs) (hR : Rd 186 w R g zs e) (hL : LayT w L c) (hLR : L ≠ R) (hcR : ∀ i, i < 1 → c i ≠ R) :
  Calls Tryz.prog 106 #[.slice (some ⟨L, 0, none⟩) 1 1, .pointer (some ⟨R, 0, none⟩)] w fun x w' => x = .returned (.agg (ceT (zs, e) 1)) ∧ Rd 186 w' R g (stp zT (zs, e) 1).1 (stp zT (zs, e) 1).2 ∧ Kp [R] w w' := by
 have HR := hide hR
 have HL := hide hL
 have HY := hide hby
 have HRR : Hid (R < w.heap.size) := by obtain ⟨_, _, _, h, _⟩ := hR; exact lt_of_block h
 clear hR hL hby
 go_enter Tryz.func106, Tryz.ntmps106
 go_wp2_with fail
 obtain ⟨w1, hw1⟩ : ∃ w1, (w.alloc (.cells #[.int .u8 0, .int .u8 0, .int .u8 0, .int .u8 0] 101)).alloc (.cells #[.int .u8 0, .int .u8 0, .int .u8 0, .int .u8 0] 101) = w1 := ⟨_, rfl⟩
 have HK1 : Hid (Kp [] w w1) := by rw [← hw1]; exact ((Kp.refl [] w).alloc _).alloc _
 have HB0 : Hid (w1.heap[w.heap.size]? = some (.cells (tailA [0, 0, 0, 0]) 101 (0, 0))) := by rw [← hw1]; exact (Below.heap_alloc _ _ _ (by simp)).trans (World.alloc_heap_new w _)
 have HB : Hid (w1.heap[w.heap.size + 1]? = some (.cells (tailA [0, 0, 0, 0]) 101 (0, 0))) := by
  rw [← hw1]
  have := World.alloc_heap_new (w.alloc (.cells (tailA [0, 0, 0, 0]) 101)) (.cells (tailA [0, 0, 0, 0]) 101)
  rwa [World.size_alloc] at this
 have hz1 : w1.heap.size = w.heap.size + 2 := by rw [← hw1]; simp
 rw [hw1]
 clear hw1
 have HR1 : Hid (Rd 186 w1 R g zs e) := (uh HR).keep (uh HK1) (by simp) (by simp)
 have HL1 : Hid (LayT w1 L c) := (uh HL).keep (uh HK1).below
 have hBR : w.heap.size + 1 ≠ R := by have := uh HRR; omega
 have HLB : Hid (L < w.heap.size) := lt_of_block (uh HL).blk
 have HCB : Hid (∀ i, i < 1 → c i < w.heap.size) := fun i hi => match i, hi with | 0, _ => (by have := block_lt_of_cell (uh HL).c0; exact this)
 obtain ⟨B, hB⟩ : ∃ B, w.heap.size + 1 = B := ⟨_, rfl⟩
 rw [hB] at HB hBR ⊢
 obtain ⟨B0, hB0⟩ : ∃ B0, w.heap.size = B0 := ⟨_, rfl⟩
 rw [hB0] at HB0 ⊢
 go_loopw [10] (fun i wr => ∃ (k : Nat), k ≤ 1 ∧ i = .int .i64 k ∧ Kp [R, B] w1 wr ∧ Rd 186 wr R g (stp zT (zs, e) k).1 (stp zT (zs, e) k).2 ∧ wr.heap[B]? = some (.cells (ceT (zs, e) k) 101 (0, 0))) (fun i _ => 1 - (intOf i).toNat)
 case atStart => exact ⟨0, by omega, rfl, Kp.refl _ _, uh HR1, uh HB⟩
 case round =>
  obtain ⟨k, hk, rfl, hK, hr, hb⟩ := hrel
  have HK := hide hK
  have HR2 := hide hr
  have HB2 := hide hb
  have HY2 : Hid (Byt (stp zT (zs, e) k).1) := byt_stp k (uh HY)
  have HS2 : Hid ((ceT (zs, e) k).size = 4) := ceT_size _ _
  have hq : ∀ (j : Nat) v, (#[.func (.func 128) #[] #[.pointer (some ⟨c 0, 0, none⟩)], .func (.func 129) #[] #[.pointer (some ⟨c 0, 0, none⟩)]] : Array Value)[j]? = some v → wr.cell? ⟨L, j, none⟩ = some v := fun j v h => hK.cell (cell_blk (uh HL1).blk h) (by have := uh HLB; simp; omega)
  have HQ := hide hq
  have HC : Hid (∀ i v, i < 1 → w1.cell? ⟨c i, 0, none⟩ = some v → wr.cell? ⟨c i, 0, none⟩ = some v) := fun i v hi h => hK.cell h (by have h1 := uh HCB i hi; have h2 := hcR i hi; simp; omega)
  have HGB : Hid (B ≠ g) := by have := hg; unfold Hid; omega
  clear hK hr hb hq
  by_cases hlt : k < 1
  ·match k, hlt with
   | 0, _ =>
    have q0 : wr.cell? ⟨L, 0, none⟩ = some (.func (.func 128) #[] #[.pointer (some ⟨c 0, 0, none⟩)]) := uh HQ 0 _ rfl
    have q1 : wr.cell? ⟨L, 1, none⟩ = some (.func (.func 129) #[] #[.pointer (some ⟨c 0, 0, none⟩)]) := uh HQ 1 _ rfl
    go_wp2_with fail
    refine (take_sevT 91 (c 0) B 0 4 R g (ceT (zs, e) 0) 101 _ _ _ at_t0.1 at_t0.2 (by omega) (((Kp.refl [] wr).alloc _).cell (uh HC 0 _ (by omega) (uh HL1).c0) (by simp)) (cexT (zs, e)) (((Kp.refl [] wr).alloc _).heap (uh HB2) (by simp)) (uh HY2) ((uh HR2).keep ((Kp.refl [] wr).alloc _) (by simp) (by simp)) hBR (uh HGB)).mono ?_
    rintro x w2 ⟨rfl, hr3, hb3, hk3⟩
    have HR3 := hide hr3
    have HB3 := hide hb3
    have HK3 : Hid (Kp [R, B] w1 w2) := ((uh HK).alloc _).trans hk3 (by simp)
    clear hr3 hb3 hk3
    go_wp2
    go_roundw
    case rel => exact ⟨1, by omega, by go_num, uh HK3, by rw [stp_succ (List.replicate 4 1) rfl]; exact uh HR3, by rw [ceT_last]; exact uh HB3⟩
    case measure => simp [intOf] <;> omega
  have : k = 1 := by omega
  subst this
  have HZ0 : Hid (wr.heap[B0]? = some (.cells (tailA [0, 0, 0, 0]) 101 (0, 0))) := (uh HK).heap (uh HB0) (by have h1 := uh HRR; simp; omega)
  go_wp2_with (first | (refine wpList_load_row rfl 101 _ rfl B rfl 101 (ceT (zs, e) 1) _ _ (uh HB2) Tryz.underlying101 rfl (by rw [sizeTT, uh HS2]) ?_) | (refine wpList_store_row rfl 101 _ _ rfl B0 (ceT (zs, e) 1) rfl rfl 101 (tailA [0, 0, 0, 0]) (uh HZ0) (by rw [sizeTT, uh HS2]) (by rw [uh HS2]; rfl) (ceT_one _ _).all ?_))
  have H9 := setRow_heap wr B0 _ (ceT (zs, e) 1) 101 _ (uh HZ0)
  refine bodyPost_ret (results_cell7 rfl _ _ ⟨B0, 0, none⟩ _ rfl (load_TT H9 (uh HS2))) rfl ?_
  have hk9 : Kp [B0] wr (wr.setRow B0 (ceT (zs, e) 1)) := ⟨rfl, rfl, rfl, by simp, fun k _ h => setRow_other _ _ k _ (by simpa using h)⟩
  refine ⟨rfl, (uh HR2).keep hk9 (by have := uh HRR; simp; omega) (by simp; omega), ?_⟩
  have k1 : Kp [R] w wr := ((uh HK1).mono (S' := [R]) (by simp)).trans (uh HK) (fun x hx => by
   simp at hx
   rcases hx with rfl | rfl
   ·exact .inl (by simp)
   exact .inr (by omega))
  exact k1.trans hk9 (fun x hx => .inr (by simp at hx; omega))
end Go.Proofs.YtjdikhelabibnaaGreat

namespace Go.Proofs.YtjdikhelabibnaaGreat
open Go.RowKit Go.Shelf
attribute [local go_sem] Oper.semAt_some
theorem ewithin_any (v lo hi : Int) (w : World) (r : Bool) (hr : decide (lo ≤ v ∧ v ≤ hi) = r) : Calls Tryz.prog 108 #[.int .i64 v, .int .i64 lo, .int .i64 hi] w fun e w' => e = .returned (.bool r) ∧ w' = w := by
 rcases (show v < lo ∨ (lo ≤ v ∧ v ≤ hi) ∨ (lo ≤ v ∧ hi < v) by omega) with h | ⟨h, h2⟩ | ⟨h, h2⟩
 ·have e : r = false := by rw [← hr, decide_eq_false (by omega)]
  subst e
  clear hr
  go_enter Tryz.func108, Tryz.ntmps108
  go_wp2
  go_ret
  exact ⟨rfl, rfl⟩
 ·have e : r = true := by rw [← hr, decide_eq_true ⟨h, h2⟩]
  subst e
  clear hr
  go_enter Tryz.func108, Tryz.ntmps108
  go_wp2
  go_ret
  exact ⟨rfl, rfl⟩
 have e : r = false := by rw [← hr, decide_eq_false (by omega)]
 subst e
 clear hr
 go_enter Tryz.func108, Tryz.ntmps108
 go_wp2
 go_ret
 exact ⟨by show Ending.returned (.bool (decide (v ≤ hi))) = _; rw [decide_eq_false (by omega)], rfl⟩
theorem kindM_any (k : Int) (w : World) (r : Bool) (hr : decide (0 ≤ k ∧ k ≤ 3) = r) : Calls Tryz.prog 111 #[.int .i64 k] w fun e w' => e = .returned (.bool r) ∧ w' = w := by
 have HR := hide hr
 clear hr
 go_enter Tryz.func111, Tryz.ntmps111
 go_wp2_with fail
 refine (ewithin_any k 0 3 _ r (uh HR)).mono ?_
 rintro e w1 ⟨rfl, rfl⟩
 go_wp2
 go_ret
 exact ⟨rfl, rfl⟩
def numOk (k l s : Int) : Prop := if k = 1 ∨ k = 2 then (0 ≤ l ∧ l ≤ 65536) ∧ 1 ≤ s ∧ s ≤ 1099511627776 else l = 0 ∧ s = 0
instance (k l s : Int) : Decidable (numOk k l s) := by unfold numOk; infer_instance
theorem numOk_two {k l s : Int} (h : k = 1 ∨ k = 2) : numOk k l s ↔ (0 ≤ l ∧ l ≤ 65536) ∧ 1 ≤ s ∧ s ≤ 1099511627776 := by unfold numOk; rw [if_pos h]
theorem numOk_else {k l s : Int} (h : ¬ (k = 1 ∨ k = 2)) : numOk k l s ↔ l = 0 ∧ s = 0 := by unfold numOk; rw [if_neg h]
def datOk (k : Int) (d : List Nat) : Prop := k = 1 ∨ d = zer16
instance (k : Int) (d : List Nat) : Decidable (datOk k d) := by unfold datOk; infer_instance
theorem okE_iff (k l s : Int) (d : List Nat) : okE k l s d ↔ (0 ≤ k ∧ k ≤ 3) ∧ numOk k l s ∧ datOk k d := by
 unfold okE numOk datOk
 by_cases h : k = 1 ∨ k = 2
 ·rw [if_pos h]
  constructor
  ·rintro ⟨h1, h2, h3, h4⟩
   exact ⟨h1, h2 h, by by_cases hk : k = 1; exact .inl hk; exact .inr (h4 hk)⟩
  rintro ⟨h1, h2, h3⟩
  exact ⟨h1, fun _ => h2, fun hn => absurd h hn, fun hn => h3.resolve_left hn⟩
 rw [if_neg h]
 constructor
 ·rintro ⟨h1, h2, h3, h4⟩
  exact ⟨h1, h3 h, by by_cases hk : k = 1; exact .inl hk; exact .inr (h4 hk)⟩
 rintro ⟨h1, h2, h3⟩
 exact ⟨h1, fun hn => absurd hn h, fun _ => h2, fun hn => h3.resolve_left hn⟩
set_option maxRecDepth 100000 in
set_option maxHeartbeats 8000000 in
theorem numM_any (k l s : Int) (d : List Nat) (w : World) (r : Bool) (hr : decide (numOk k l s) = r) : Calls Tryz.prog 112 #[.agg (entA k l s d)] w fun e w' => e = .returned (.bool r) ∧ Below w.heap.size w w' := by
 obtain ⟨W, hW, hE, hb⟩ := EntAt.new w k l s d
 have HB := hide hb
 have c0 := hE.c0
 have c1 := hE.c1
 have c2 := hE.c2
 clear hb hE
 by_cases hk : k = 1 ∨ k = 2
 ·by_cases h1 : 0 ≤ l ∧ l ≤ 65536
  ·have e : decide (1 ≤ s ∧ s ≤ 1099511627776) = r := by rw [← hr]; exact decide_eq_decide.2 ⟨fun h => (numOk_two hk).2 ⟨h1, h⟩, fun h => ((numOk_two hk).1 h).2⟩
   have HE := hide e
   have H1 := hide (decide_eq_true h1)
   clear e hr h1
   rcases hk with hk | hk
   all_goals
    subst hk
    go_enter Tryz.func112, Tryz.ntmps112
    go_wp2_with fail
    refine (ewithin_any l 0 65536 _ true (uh H1)).mono ?_
    rintro e w1 ⟨rfl, rfl⟩
    go_wp2_with fail
    refine (ewithin_any s 1 1099511627776 _ r (uh HE)).mono ?_
    rintro e w1 ⟨rfl, rfl⟩
    go_wp2
    go_ret
    exact ⟨rfl, uh HB⟩
  have e : r = false := by rw [← hr]; exact decide_eq_false (fun h => h1 ((numOk_two hk).1 h).1)
  subst e
  have H1 := hide (decide_eq_false h1)
  clear hr h1
  rcases hk with hk | hk
  all_goals
   subst hk
   go_enter Tryz.func112, Tryz.ntmps112
   go_wp2_with fail
   refine (ewithin_any l 0 65536 _ false (uh H1)).mono ?_
   rintro e w1 ⟨rfl, rfl⟩
   go_wp2
   go_ret
   exact ⟨rfl, uh HB⟩
 have q1 : (k == 1) = false := by rw [beq_eq_false_iff_ne]; omega
 have q2 : (k == 2) = false := by rw [beq_eq_false_iff_ne]; omega
 by_cases h1 : l = 0
 ·subst h1
  by_cases h2 : s = 0
  ·subst h2
   have e : r = true := by rw [← hr]; exact decide_eq_true ((numOk_else hk).2 ⟨rfl, rfl⟩)
   subst e
   clear hr hk
   go_enter Tryz.func112, Tryz.ntmps112
   go_wp2
   go_ret
   exact ⟨rfl, uh HB⟩
  have e : r = false := by rw [← hr]; exact decide_eq_false (fun h => h2 ((numOk_else hk).1 h).2)
  subst e
  have q3 : (s == 0) = false := by rw [beq_eq_false_iff_ne]; exact h2
  clear hr hk h2
  go_enter Tryz.func112, Tryz.ntmps112
  go_wp2
  go_ret
  exact ⟨rfl, uh HB⟩
 have e : r = false := by rw [← hr]; exact decide_eq_false (fun h => h1 ((numOk_else hk).1 h).1)
 subst e
 have q3 : (l == 0) = false := by rw [beq_eq_false_iff_ne]; exact h1
 clear hr hk h1
 go_enter Tryz.func112, Tryz.ntmps112
 go_wp2
 go_ret
 exact ⟨rfl, uh HB⟩
theorem eqTD (d d' : List Nat) (h : d.length = 16) (h' : d'.length = 16) (r : Bool) (hr : decide (d = d') = r) (w : World) : (binOp .eql 42 (.agg (datL d).toArray) (.agg (datL d').toArray)).run Tryz.prog w = .ok (.bool r) w := by
 simp [binOp, Op.equal, Op.maxDepth, eqTD_in d d' h h' 9998, hr]
set_option maxRecDepth 100000 in
set_option maxHeartbeats 8000000 in
theorem datM_any (k l s : Int) (d : List Nat) (hd : d.length = 16) (w : World) (r : Bool) (hr : decide (datOk k d) = r) : Calls Tryz.prog 113 #[.agg (entA k l s d)] w fun e w' => e = .returned (.bool r) ∧ Below w.heap.size w w' := by
 obtain ⟨W, hW, hE, hb⟩ := EntAt.new w k l s d
 have HB := hide hb
 have c0 := hE.c0
 have f0 : W.cell? ⟨w.heap.size, 3, none⟩ = some (.int .u8 ((cf d 0 : Nat) : Int)) := hE.range 0 _ (datL_get (by omega))
 have f1 : W.cell? ⟨w.heap.size, 4, none⟩ = some (.int .u8 ((cf d 1 : Nat) : Int)) := hE.range 1 _ (datL_get (by omega))
 have f2 : W.cell? ⟨w.heap.size, 5, none⟩ = some (.int .u8 ((cf d 2 : Nat) : Int)) := hE.range 2 _ (datL_get (by omega))
 have f3 : W.cell? ⟨w.heap.size, 6, none⟩ = some (.int .u8 ((cf d 3 : Nat) : Int)) := hE.range 3 _ (datL_get (by omega))
 have f4 : W.cell? ⟨w.heap.size, 7, none⟩ = some (.int .u8 ((cf d 4 : Nat) : Int)) := hE.range 4 _ (datL_get (by omega))
 have f5 : W.cell? ⟨w.heap.size, 8, none⟩ = some (.int .u8 ((cf d 5 : Nat) : Int)) := hE.range 5 _ (datL_get (by omega))
 have f6 : W.cell? ⟨w.heap.size, 9, none⟩ = some (.int .u8 ((cf d 6 : Nat) : Int)) := hE.range 6 _ (datL_get (by omega))
 have f7 : W.cell? ⟨w.heap.size, 10, none⟩ = some (.int .u8 ((cf d 7 : Nat) : Int)) := hE.range 7 _ (datL_get (by omega))
 have f8 : W.cell? ⟨w.heap.size, 11, none⟩ = some (.int .u8 ((cf d 8 : Nat) : Int)) := hE.range 8 _ (datL_get (by omega))
 have f9 : W.cell? ⟨w.heap.size, 12, none⟩ = some (.int .u8 ((cf d 9 : Nat) : Int)) := hE.range 9 _ (datL_get (by omega))
 have f10 : W.cell? ⟨w.heap.size, 13, none⟩ = some (.int .u8 ((cf d 10 : Nat) : Int)) := hE.range 10 _ (datL_get (by omega))
 have f11 : W.cell? ⟨w.heap.size, 14, none⟩ = some (.int .u8 ((cf d 11 : Nat) : Int)) := hE.range 11 _ (datL_get (by omega))
 have f12 : W.cell? ⟨w.heap.size, 15, none⟩ = some (.int .u8 ((cf d 12 : Nat) : Int)) := hE.range 12 _ (datL_get (by omega))
 have f13 : W.cell? ⟨w.heap.size, 16, none⟩ = some (.int .u8 ((cf d 13 : Nat) : Int)) := hE.range 13 _ (datL_get (by omega))
 have f14 : W.cell? ⟨w.heap.size, 17, none⟩ = some (.int .u8 ((cf d 14 : Nat) : Int)) := hE.range 14 _ (datL_get (by omega))
 have f15 : W.cell? ⟨w.heap.size, 18, none⟩ = some (.int .u8 ((cf d 15 : Nat) : Int)) := hE.range 15 _ (datL_get (by omega))
 clear hb hE
 by_cases hk : k = 1
 ·have e : r = true := by rw [← hr]; exact decide_eq_true (.inl hk)
  subst e
  subst hk
  clear hr hd f0 f1 f2 f3 f4 f5 f6 f7 f8 f9 f10 f11 f12 f13 f14 f15
  go_enter Tryz.func113, Tryz.ntmps113
  go_wp2
  go_ret
  exact ⟨rfl, uh HB⟩
 have q1 : (k == 1) = false := by rw [beq_eq_false_iff_ne]; omega
 have hq := fun W => eqTD d zer16 hd zer16_len r (by rw [← hr]; exact decide_eq_decide.2 ⟨fun h => .inr h, fun h => h.resolve_left hk⟩) W
 rw [datA16 hd, datZ16] at hq
 have hbz := fun W => build_TD W
 clear hr hd hk
 go_enter Tryz.func113, Tryz.ntmps113
 go_wp2
 go_ret
 exact ⟨rfl, uh HB⟩
theorem wpList_load_want10 {P : Program} {ops : Array Oper} {rest : List Oper} {o : Oper} {a : Act} {w : World} {Q : Exit → Act → World → Prop} (hw : Region.wanted o (yielded ops a.tmps) = true) (ty : TypeId) (x : Operand) (ho : o.op = .load ty x)
  (g : Nat) (hx : a.eval x = .pointer (some ⟨g, 0, none⟩)) (t : TypeId) (cs : Array Value) (fr : Nat × Nat) (d : TypeDesc) (hg : w.heap[g]? = some (.cells cs t fr))
  (hu : P.underlying ty = some d) (hd : (match d with | .struct _ | .array _ _ => true | _ => false) = true) (hi : (P.info? ty).map (·.size) = some cs.size)
  (h : wpList P ops Q rest (a.put o.dst (.agg cs)) w) : wpList P ops Q (o :: rest) a w :=
 BigFrame.wpList_want hw fun _ hK => wp_load_row ty x ho g hx t cs fr d hg hu hd hi (hK _ _ h)
set_option maxRecDepth 100000 in
set_option maxHeartbeats 8000000 in
theorem echeck_any (k l s : Int) (d : List Nat) (hd : d.length = 16) (w : World) : Calls Tryz.prog 76 #[.agg (entA k l s d)] w fun e w' => e = .returned (.int .i64 (chkE k l s d)) ∧ Below w.heap.size w w' := by
 obtain ⟨W, hW, hE, hb⟩ := EntAt.new w k l s d
 have HB := hide hb
 have HE := hide hE
 have c0 := hE.c0
 have HBK := hide hE.blk
 clear hb hE
 by_cases h1 : 0 ≤ k ∧ k ≤ 3
 ·have H1 := hide (decide_eq_true h1)
  by_cases h2 : numOk k l s
  ·have H2 := hide (decide_eq_true h2)
   by_cases h3 : datOk k d
   ·have H3 := hide (decide_eq_true h3)
    rw [chkE_ok ((okE_iff _ _ _ _).2 ⟨h1, h2, h3⟩)]
    clear h1 h2 h3
    go_enter Tryz.func76, Tryz.ntmps76
    go_wp2_with fail
    refine (kindM_any k _ true (uh H1)).mono ?_
    rintro e w1 ⟨rfl, rfl⟩
    go_wp2_with (refine wpList_load_want10 rfl 44 _ rfl w.heap.size rfl 44 (entA k l s d) _ _ (uh HBK) Tryz.underlying44 rfl (by rw [sizeTE, entA_size hd]) ?_)
    refine (numM_any k l s d _ true (uh H2)).mono ?_
    rintro e w2 ⟨rfl, hk2⟩
    have HK2 := hide hk2
    replace HBK := hide ((hk2.block _ (lt_of_block (uh HBK))).trans (uh HBK))
    clear hk2
    go_wp2_with (refine wpList_load_want10 rfl 44 _ rfl w.heap.size rfl 44 (entA k l s d) _ _ (uh HBK) Tryz.underlying44 rfl (by rw [sizeTE, entA_size hd]) ?_)
    refine (datM_any k l s d hd _ true (uh H3)).mono ?_
    rintro e w3 ⟨rfl, hk3⟩
    have HK3 := hide hk3
    clear hk3
    go_wp2
    go_ret
    exact ⟨rfl, (uh HB).trans (((uh HK2).trans ((uh HK3).mono (uh HK2).size)).mono (uh HB).size)⟩
   have H3 := hide (decide_eq_false h3)
   rw [chkE_not (fun h => h3 ((okE_iff _ _ _ _).1 h).2.2)]
   clear h1 h2 h3
   go_enter Tryz.func76, Tryz.ntmps76
   go_wp2_with fail
   refine (kindM_any k _ true (uh H1)).mono ?_
   rintro e w1 ⟨rfl, rfl⟩
   go_wp2_with (refine wpList_load_want10 rfl 44 _ rfl w.heap.size rfl 44 (entA k l s d) _ _ (uh HBK) Tryz.underlying44 rfl (by rw [sizeTE, entA_size hd]) ?_)
   refine (numM_any k l s d _ true (uh H2)).mono ?_
   rintro e w2 ⟨rfl, hk2⟩
   have HK2 := hide hk2
   replace HBK := hide ((hk2.block _ (lt_of_block (uh HBK))).trans (uh HBK))
   clear hk2
   go_wp2_with (refine wpList_load_want10 rfl 44 _ rfl w.heap.size rfl 44 (entA k l s d) _ _ (uh HBK) Tryz.underlying44 rfl (by rw [sizeTE, entA_size hd]) ?_)
   refine (datM_any k l s d hd _ false (uh H3)).mono ?_
   rintro e w3 ⟨rfl, hk3⟩
   have HK3 := hide hk3
   clear hk3
   go_wp2
   go_ret
   exact ⟨rfl, (uh HB).trans (((uh HK2).trans ((uh HK3).mono (uh HK2).size)).mono (uh HB).size)⟩
  have H2 := hide (decide_eq_false h2)
  rw [chkE_not (fun h => h2 ((okE_iff _ _ _ _).1 h).2.1)]
  clear h1 h2
  go_enter Tryz.func76, Tryz.ntmps76
  go_wp2_with fail
  refine (kindM_any k _ true (uh H1)).mono ?_
  rintro e w1 ⟨rfl, rfl⟩
  go_wp2_with (refine wpList_load_want10 rfl 44 _ rfl w.heap.size rfl 44 (entA k l s d) _ _ (uh HBK) Tryz.underlying44 rfl (by rw [sizeTE, entA_size hd]) ?_)
  refine (numM_any k l s d _ false (uh H2)).mono ?_
  rintro e w2 ⟨rfl, hk2⟩
  have HK2 := hide hk2
  replace HBK := hide ((hk2.block _ (lt_of_block (uh HBK))).trans (uh HBK))
  clear hk2
  go_wp2
  go_ret
  exact ⟨rfl, (uh HB).trans ((uh HK2).mono (uh HB).size)⟩
 have H1 := hide (decide_eq_false h1)
 rw [chkE_not (fun h => h1 ((okE_iff _ _ _ _).1 h).1)]
 clear h1
 go_enter Tryz.func76, Tryz.ntmps76
 go_wp2_with fail
 refine (kindM_any k _ false (uh H1)).mono ?_
 rintro e w1 ⟨rfl, rfl⟩
 go_wp2
 go_ret
 exact ⟨rfl, uh HB⟩
end Go.Proofs.YtjdikhelabibnaaGreat

namespace Go.Proofs.YtjdikhelabibnaaGreat
open Go.RowKit Go.Shelf
theorem by8_one (v : Int) : by8 1 (IntKind.u64.wrap v) = [v % 256] := by
 rw [IntKind.wrap_u64]
 simp only [by8, List.cons.injEq, and_true]
 omega
def byW (a b c e k l s : Int) (d t : List Nat) : List Int :=
 by8 8 (IntKind.u64.wrap a) ++ ([b % 256, c % 256, e % 256, k % 256] ++ (by8 8 (IntKind.u64.wrap l) ++ (by8 8 (IntKind.u64.wrap s) ++ (ints d ++ ints t))))
def byT (a b c e k l s : Int) (d : List Nat) : List Int := byW a b c e k l s d [0, 0, 0, 0]
theorem ints_len10 (d : List Nat) : (ints d).length = d.length := by simp [ints]
theorem byW_len {a b c e k l s : Int} {d t : List Nat} (hd : d.length = 16) (ht : t.length = 4) : (byW a b c e k l s d t).length = 48 := by
 simp only [byW, List.length_append, by8_length, ints_len10, hd, ht, List.length_cons, List.length_nil]
theorem fin_all (a b c e k l s : Int) (d : List Nat) : fin10 (owH a b c e) 4 ++ fin10 (owE k l s d) 4 ++ fin10 (owT [0, 0, 0, 0]) 1 = byT a b c e k l s d := by
 simp only [fin10, owH, owE, owT, List.take_succ_cons, List.take_nil, List.flatten_cons, List.flatten_nil, by8_one, byT, byW, List.append_nil, List.append_assoc, List.cons_append, List.nil_append]
theorem byt_by8 (n : Nat) : ∀ v, Byt (by8 n v) := by
 induction n with
 | zero => intro v z hz; simp [by8] at hz
 | succ n ih =>
  intro v z hz
  rw [by8, List.mem_cons] at hz
  rcases hz with rfl | hz
  ·omega
  exact ih _ z hz
theorem byt_app {x y : List Int} (hx : Byt x) (hy : Byt y) : Byt (x ++ y) := fun z hz => (List.mem_append.1 hz).elim (hx z) (hy z)
theorem byt_ints {d : List Nat} (h : ∀ x ∈ d, x < 256) : Byt (ints d) := by
 intro z hz
 obtain ⟨x, hx, rfl⟩ := List.mem_map.1 hz
 have := h x hx
 exact ⟨by omega, by show (x : Int) ≤ 255; omega⟩
theorem byW_byt {a b c e k l s : Int} {d t : List Nat} (hd : ∀ x ∈ d, x < 256) (ht : ∀ x ∈ t, x < 256) : Byt (byW a b c e k l s d t) := by
 refine byt_app (byt_by8 _ _) (byt_app ?_ (byt_app (byt_by8 _ _) (byt_app (byt_by8 _ _) (byt_app (byt_ints hd) (byt_ints ht)))))
 intro z hz
 simp only [List.mem_cons, List.not_mem_nil, or_false] at hz
 rcases hz with rfl | rfl | rfl | rfl <;> omega
theorem mem_lt10 {d : List Nat} (h : ∀ j, cf d j < 256) : ∀ x ∈ d, x < 256 := by
 intro x hx
 obtain ⟨j, hj⟩ := List.mem_iff_getElem?.1 hx
 have h1 := h j
 obtain ⟨hlt, rfl⟩ := List.getElem?_eq_some_iff.1 hj
 have h2 := cf_get hlt
 rw [List.getElem?_eq_getElem hlt] at h2
 rw [Option.some.inj h2]
 exact h1
theorem ceH_all (s : List Int × Int) : ceH s 4 = headA ((rdL szH s).getD 0 0) ((rdL szH s).getD 1 0) ((rdL szH s).getD 2 0) ((rdL szH s).getD 3 0) := rfl
theorem ints_drop10 (l : List Int) (h : ∀ z ∈ l, 0 ≤ z) : datL (nat10 l) = l.map (Value.int .u8) := by
 unfold datL
 rw [ints_nat10 h]
theorem csets_full (vs : List Value) : ∀ (cs : Array Value) (pre post : List Value) (n : Nat), pre.length = n → cs = (pre ++ post).toArray → post.length = vs.length → csets cs n vs = (pre ++ vs).toArray := by
 induction vs with
 | nil => intro cs pre post n _ h1 h2; rw [List.eq_nil_of_length_eq_zero h2] at h1; rw [h1]; rfl
 | cons v vs ih =>
  intro cs pre post n hn h1 h2
  subst hn
  match post, h2 with
  | p :: post, h2 =>
   rw [csets]
   have e : cs.setIfInBounds pre.length v = ((pre ++ [v]) ++ post).toArray := by
    rw [h1, List.setIfInBounds_toArray]
    congr 1
    rw [List.set_append_right _ _ (Nat.le_refl _), Nat.sub_self]
    simp
   rw [ih _ (pre ++ [v]) post _ (by simp) e (by simpa using h2)]
   simp
theorem ceE_all (s : List Int × Int) (h : Byt s.1) : ceE s 4 = entA ((rdL szE s).getD 0 0) ((rdL szE s).getD 1 0) ((rdL szE s).getD 2 0) (nat10 ((rdL szE s).drop 3)) := by
 have e3 : ceE s 3 = ([Value.int .i64 (rdV 1 (stp zE s 0).1), Value.int .i64 (rdV 8 (stp zE s 1).1), Value.int .i64 (rdV 8 (stp zE s 2).1)] ++ datL zer16).toArray := rfl
 have e4 : rdL szE s = [rdV 1 (stp zE s 0).1, rdV 8 (stp zE s 1).1, rdV 8 (stp zE s 2).1] ++ rdL (List.replicate 16 1) (stp zE s 3) := by
  unfold szE
  rw [rdL_app]
  rfl
 rw [ceE_last, csets_full _ _ [Value.int .i64 (rdV 1 (stp zE s 0).1), .int .i64 (rdV 8 (stp zE s 1).1), .int .i64 (rdV 8 (stp zE s 2).1)] (datL zer16) 3 rfl e3 (by rw [datL_len, zer16_len, List.length_map, rdL_len, List.length_replicate]), e4]
 unfold entA
 rw [List.drop_append_of_le_length (by simp), ints_drop10 _ (by
  intro z hz
  simp only [List.drop_succ_cons, List.drop_nil, List.nil_append] at hz
  exact (rd_ones (byt_stp 3 h) z hz).1)]
 rfl
theorem ceT_all (s : List Int × Int) (h : Byt s.1) : ceT s 1 = tailA (nat10 (rdL szT s)) := by
 have e3 : ceT s 0 = ([] ++ datL [0, 0, 0, 0]).toArray := rfl
 rw [ceT_last, csets_full _ _ [] (datL [0, 0, 0, 0]) 0 rfl e3 (by rw [datL_len, List.length_map, rdL_len, List.length_replicate]; rfl)]
 unfold tailA
 rw [ints_drop10 (rdL szT s) (fun z hz => (rd_ones (n := 4) h z hz).1)]
 rfl
end Go.Proofs.YtjdikhelabibnaaGreat

namespace Go.Proofs.YtjdikhelabibnaaGreat
open Go.RowKit Go.Shelf
theorem LayH.below {w w' : World} {L : Nat} {c : Nat → Nat} (h : LayH w L c) (k : Below w.heap.size w w') : LayH w' L c := h.keep k
theorem LayE.below {w w' : World} {L : Nat} {c : Nat → Nat} (h : LayE w L c) (k : Below w.heap.size w w') : LayE w' L c := h.keep k
theorem LayT.below {w w' : World} {L : Nat} {c : Nat → Nat} (h : LayT w L c) (k : Below w.heap.size w w') : LayT w' L c := h.keep k
structure AtB (w : World) (b : Nat) (cs : Array Value) (ty : TypeId) : Prop where
 blk : w.heap[b]? = some (.cells cs ty (0, 0))
theorem AtB.below {w w' : World} {b : Nat} {cs : Array Value} {ty : TypeId} (h : AtB w b cs ty) (k : Below w.heap.size w w') : AtB w' b cs ty := ⟨(k.block b (lt_of_block h.blk)).trans h.blk⟩
theorem lenH10 (x0 x1 x2 x3 : Int) : ([] ++ fin10 (owH x0 x1 x2 x3) 4).length = 11 := by simp [fin10, owH, by8_length]
theorem lenE10 (x0 x1 x2 x3 k l s : Int) (d : List Nat) (hd : d.length = 16) : (([] ++ fin10 (owH x0 x1 x2 x3) 4) ++ fin10 (owE k l s d) 4).length = 44 := by simp [fin10, owH, owE, by8_length, ints_len10, hd]
end Go.Proofs.YtjdikhelabibnaaGreat
