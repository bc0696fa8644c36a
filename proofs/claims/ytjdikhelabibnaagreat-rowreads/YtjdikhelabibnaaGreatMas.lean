/-
  
-/
import Derived.Test.YtjdikhelabibnaaGreatMaf
import Derived.Test.YtjdikhelabibnaaGreatMar
import Derived.Maps.AppendAt
import Derived.Laws.BytesString
import Derived.Test.YtjdikhelabibnaaGreatMaa
namespace Go.Proofs.YtjdikhelabibnaaGreat
open Go.RowKit
theorem run_append_byte (w : World) (base : Nat) (v : Value) (n : Nat) (zs : List Int) (x : Int) (ad : Addr) (ty : TypeId) (hown : w.ownsRow base 5 1 v n (zs.map (Value.int .u8))) (hc : w.cell? ad = some (.int .u8 x)) (hn : n ≤ 1000000) (hbase : base ≤ w.heap.size) :
  ∃ g cap w', (Builtin.append_ #[47, 47] ty #[v, .slice (some ad) 1 1]).run Tryz.prog w = .ok (.slice (some ⟨g, 0, none⟩) (n + 1) cap) w' ∧ w'.ownsRow base 5 1 (.slice (some ⟨g, 0, none⟩) (n + 1) cap) (n + 1) ((zs ++ [x]).map (Value.int .u8)) ∧
   Kp v.ownBlock.toList w w' ∧ (v.ownBlock = some g ∨ g = w.heap.size) := by
 obtain ⟨i0, hi, hz0, hz1, hz2⟩ := info_parts infoE
 obtain ⟨v', w', hr, ho, hg, hv, hat⟩ := run_append_own_at (P := Tryz.prog) w base 47 ty 5 i0 (.int .u8 0) 1 1 Tryz.underlying47 hi hz0 hz1 hz2 rfl (by decide) v n (zs.map (Value.int .u8)) hown ad 1 1 [.int .u8 x] rfl
  (fun j u hj => by
   match j, hj with
   | 0, hj =>
    simp at hj
    subst hj
    rw [show ad.add 0 = ad from by unfold Addr.add; split <;> simp_all]
    exact hc) (by intro u hu; simp at hu; subst hu; rfl) (by unfold maxLen; omega) (by omega) hbase
 obtain ⟨g, cap, rfl, hb, hlt⟩ := owns_shape ho (fun e => by have := (hv.1 e).2; omega)
 refine ⟨g, cap, w', hr, by simpa using ho, (Kp.refl _ w).grown hg (fun k hk => .inl (by simp [hk])), ?_⟩
 rcases hat with h | h
 ·left; rw [← h]; rfl
 right; simpa [Value.ownBlock] using h
theorem wpList_append_byte {w : World} {ops : Array Oper} {rest : List Oper} {o : Oper} {a : Act} {Q : Exit → Act → World → Prop} (hgd : o.guard = none) (s x : Operand)
  (ho : o.op = .call { callee := .builtin .append, args := #[s, x], argTypes := #[47, 47] })
  (base : Nat) (v : Value) (n : Nat) (zs : List Int) (y : Int) (ad : Addr) (hs : a.eval s = v) (hx : a.eval x = .slice (some ad) 1 1) (hown : w.ownsRow base 5 1 v n (zs.map (Value.int .u8))) (hc : w.cell? ad = some (.int .u8 y)) (hn : n ≤ 1000000) (hbase : base ≤ w.heap.size)
  (h : ∀ g cap w' ys, Hid (zs ++ [y] = ys) → Hid (w'.ownsRow base 5 1 (.slice (some ⟨g, 0, none⟩) (n + 1) cap) (n + 1) (ys.map (Value.int .u8))) → Kp v.ownBlock.toList w w' → (v.ownBlock = some g ∨ g = w.heap.size) →
   wpList Tryz.prog ops Q rest (a.put o.dst (.slice (some ⟨g, 0, none⟩) (n + 1) cap)) w') : wpList Tryz.prog ops Q (o :: rest) a w := by
 refine wpList_plain hgd fun K hK => ?_
 obtain ⟨g, cap, w', hr, h2, h3, h4⟩ := run_append_byte w base v n zs y ad o.type hown hc hn hbase
 unfold Oper.wp
 simp [execOp, ho, resolve, invoke, builtin, hs, hx, hr, Result.andThen]
 exact hK _ _ (h g cap w' _ rfl h2 h3 h4)
theorem cell_new (w : World) (x : Value) (t : TypeId) : (w.alloc (.cells #[x] t)).cell? ⟨w.heap.size, 0, none⟩ = some x := by
 rw [cell_of_row _ _ 0 _ t (0, 0) (heap_alloc_new _ _)]; rfl
theorem xwbyte (v : Value) (n : Nat) (zs : List Int) (z : Int) (base : Nat) (w : World) (ho : w.ownsRow base 5 1 v n (zs.map (Value.int .u8))) (hn : n ≤ 1000000) (hbase : base ≤ w.heap.size) :
  Calls Tryz.prog 58 #[v, .int .i64 z] w fun e w' => ∃ g cap, e = .returned (.slice (some ⟨g, 0, none⟩) (n + 1) cap) ∧ w'.ownsRow base 5 1 (.slice (some ⟨g, 0, none⟩) (n + 1) cap) (n + 1) ((zs ++ [z % 256]).map (Value.int .u8)) ∧
   Kp v.ownBlock.toList w w' ∧ (v.ownBlock = some g ∨ w.heap.size ≤ g) := by
 have HO := hide ho
 clear ho
 have HC := hide (cell_new w (.int .u8 (z % 256)) 5)
 go_enter Tryz.func58, Tryz.ntmps58
 go_wp2_with (at_builtin; refine wpList_append_byte rfl _ _ rfl base v n zs (z % 256) ⟨w.heap.size, 0, none⟩ rfl rfl ((uh HO).alloc _) (uh HC) hn (by simp; omega) ?_)
 intro g cap w1 ys HYS HO1 hk1 hg1
 have HK1 := hide (((Kp.refl v.ownBlock.toList w).alloc _).trans hk1 (fun x hx => .inl hx))
 clear hk1
 go_wp2
 go_ret
 exact ⟨g, cap, rfl, by rw [uh HYS]; exact uh HO1, uh HK1, hg1.imp id (fun h => by omega)⟩
theorem shr8 (u : Int) (k : Nat) : u / 2 ^ (8 * k) % 256 = u / 256 ^ k % 256 := by
 rw [Int.pow_mul]
 rfl
theorem xwint (v : Value) (n : Nat) (zs : List Int) (z : Int) (base : Nat) (w : World) (ho : w.ownsRow base 5 1 v n (zs.map (Value.int .u8))) (hn : n ≤ 100000) (hbase : base ≤ w.heap.size) :
  Calls Tryz.prog 57 #[v, .int .i64 z] w fun e w' => ∃ g cap, e = .returned (.slice (some ⟨g, 0, none⟩) (n + 8) cap) ∧ w'.ownsRow base 5 1 (.slice (some ⟨g, 0, none⟩) (n + 8) cap) (n + 8) ((zs ++ by8 8 (IntKind.u64.wrap z)).map (Value.int .u8)) ∧
   Kp v.ownBlock.toList w w' ∧ (v.ownBlock = some g ∨ w.heap.size ≤ g) := by
 have HO := hide ho
 clear ho
 have hu : 0 ≤ IntKind.u64.wrap z ∧ IntKind.u64.wrap z < 18446744073709551616 := by rw [IntKind.wrap_u64]; omega
 go_enter Tryz.func57, Tryz.ntmps57
 go_wp2_with fail
 go_loopw [0, 5] (fun b i wr => ∃ k : Nat, k ≤ 8 ∧ i = .int .i64 k ∧ wr.ownsRow base 5 1 b (n + k) ((zs ++ by8 k (IntKind.u64.wrap z)).map (Value.int .u8)) ∧ Kp v.ownBlock.toList w wr ∧
   (b.ownBlock = v.ownBlock ∨ ∃ g, b.ownBlock = some g ∧ w.heap.size ≤ g) ∧ (0 < k → ∃ g cap, b = .slice (some ⟨g, 0, none⟩) (n + k) cap)) (fun _ i _ => 8 - (intOf i).toNat)
 case atStart => exact ⟨0, by omega, rfl, by simpa [by8] using uh HO, Kp.refl _ _, .inl rfl, fun h => absurd h (by omega)⟩
 case round =>
  obtain ⟨k, hk, rfl, ho, hkp, hob, hsh⟩ := hrel
  have HOK := hide ho
  have HKP := hide hkp
  have HOB := hide hob
  have HSH := hide hsh
  clear ho hkp hob hsh
  by_cases hlt : k < 8
  ·have hw := (uh HKP).size
   have HYS0 : Hid (by8 (k + 1) (IntKind.u64.wrap z) = by8 k (IntKind.u64.wrap z) ++ [IntKind.u64.wrap z / 2 ^ (8 * k) % 256]) := by show _ = _; rw [shr8]; exact by8_snoc _ _
   have HC := hide (cell_new wr (.int .u8 (IntKind.u64.wrap z / 2 ^ (8 * k) % 256)) 5)
   go_wp2_with (at_builtin; refine wpList_append_byte rfl _ _ rfl base _ (n + k) (zs ++ by8 k (IntKind.u64.wrap z)) (IntKind.u64.wrap z / 2 ^ (8 * k) % 256) ⟨wr.heap.size, 0, none⟩ rfl rfl ((uh HOK).alloc _) (uh HC) (by omega) (by simp; omega) ?_)
   intro g cap w1 ys HYS HO1 hk1 hg1
   have hS : ∀ x ∈ (Value.ownBlock u0).toList, x ∈ v.ownBlock.toList ∨ w.heap.size ≤ x := by
    intro x hx
    rcases uh HOB with h | ⟨g2, h, h2⟩
    ·rw [h] at hx; exact .inl hx
    rw [h] at hx; simp at hx; exact .inr (by omega)
   have HK1 := hide (((uh HKP).alloc _).trans hk1 hS)
   have HG : Hid ((Value.slice (some ⟨g, 0, none⟩) (n + k + 1) cap).ownBlock = v.ownBlock ∨ ∃ g', (Value.slice (some ⟨g, 0, none⟩) (n + k + 1) cap).ownBlock = some g' ∧ w.heap.size ≤ g') := by
    rcases hg1 with h | h
    ·rcases uh HOB with h3 | ⟨g2, h3, h4⟩
     ·exact .inl (by rw [← h3, h]; rfl)
     rw [h] at h3; simp at h3; exact .inr ⟨g, rfl, by omega⟩
    exact .inr ⟨g, rfl, by omega⟩
   clear hk1 hg1 hS
   go_wp2
   go_roundw
   case rel =>
    refine ⟨k + 1, by omega, by go_num, ?_, uh HK1, uh HG, fun _ => ⟨g, cap, rfl⟩⟩
    rw [uh HYS0, uh HYS]
    exact uh HO1
   case measure => simp [intOf]; omega
  have h8 : k = 8 := by omega
  subst h8
  obtain ⟨g, cap, rfl⟩ := uh HSH (by omega)
  go_wp2
  go_ret
  refine ⟨g, cap, rfl, uh HOK, uh HKP, ?_⟩
  rcases uh HOB with h | ⟨g2, h, h2⟩
  ·exact .inl h.symm
  right; simp [Value.ownBlock] at h; omega
end Go.Proofs.YtjdikhelabibnaaGreat

namespace Go.Proofs.YtjdikhelabibnaaGreat
open Go.RowKit
section
variable {P : Program} (w : World)
theorem zeroCells_one (m : Nat) : Builtin.zeroCells (Value.cells (.int .u8 0)) m = (List.replicate m (Value.int .u8 0)).toArray := by
 apply Array.ext'
 apply List.ext_getElem?
 intro j
 by_cases hj : j < m
 ·simp [Builtin.zeroCells, Value.cells, hj, Nat.mod_one]
 simp [Builtin.zeroCells, Value.cells, hj]
theorem run_zeros_room (t u ty e : TypeId) (i : TypeInfo) (ht : P.underlying t = some (.slice e)) (hu : P.underlying u = some (.int .i64)) (hi : P.info? e = some i) (hz : i.zero = some (.int .u8 0)) (hsize : i.size = 1) (hby : i.bytes = 1)
  (g n cap : Nat) (cur : Array Value) (hg : w.heap[g]? = some (.cells cur e (0, 0))) (m : Nat) (hm : m ≤ 1000) (hroom : n + m ≤ cap) (hfit : n + m ≤ cur.size) :
  (Builtin.append_ #[t, u] ty #[.slice (some ⟨g, 0, none⟩) n cap, .int .i64 m]).run P w =
   .ok (.slice (some ⟨g, 0, none⟩) (n + m) cap) (w.setRow g (cur.toList.take n ++ List.replicate m (Value.int .u8 0) ++ cur.toList.drop (n + m)).toArray) := by
 have hst := run_storeCells_at P g n e (List.replicate m (Value.int .u8 0)) 0 cur w hg (by simpa using hfit) (by intro v hv; rw [List.eq_of_mem_replicate hv]; rfl)
 simp only [Nat.add_zero, List.length_replicate] at hst
 have hw : IntKind.i64.wrap (m : Int) = m := by rw [IntKind.wrap_i64]; omega
 have h1 : ¬ ((m : Int) < 0) := by omega
 have h2 : ¬ (281474976710656 < (m : Int)) := by omega
 by_cases h0 : m = 0
 ·subst h0
  have hw0 : IntKind.i64.wrap 0 = 0 := by decide
  simp [hw0, Builtin.append_, run_underlying ht, run_underlying hu, sizeOf, typeInfo, hi, hsize, hby, asInt, asIntOf, show n ≤ cap from by omega, Addr.add_lit]
  have := hst
  simp at this
  simp [this]
 simp [Builtin.append_, run_underlying ht, run_underlying hu, sizeOf, typeInfo, hi, hsize, hby, asInt, asIntOf, hw, h1, h2, h0, hroom, zeroValue, hz, Addr.add_lit, zeroCells_one, hst]
theorem run_zeros_grow (t u ty e : TypeId) (i : TypeInfo) (ht : P.underlying t = some (.slice e)) (hu : P.underlying u = some (.int .i64)) (hi : P.info? e = some i) (hz : i.zero = some (.int .u8 0)) (hsize : i.size = 1) (hby : i.bytes = 1)
  (g n cap : Nat) (olds : List Value) (hlo : olds.length = n) (holds : ∀ j v, olds[j]? = some v → w.cell? ((⟨g, 0, none⟩ : Addr).add j) = some v) (m : Nat) (hm : m ≤ 1000) (hn : n ≤ 1000000) (hnc : n ≤ cap) (hgr : cap < n + m) :
  (Builtin.append_ #[t, u] ty #[.slice (some ⟨g, 0, none⟩) n cap, .int .i64 m]).run P w =
   .ok (.slice (some ⟨w.heap.size, 0, none⟩) (n + m) (grownCap w (n + m) cap e))
    (w.drew.alloc (.cells (olds.toArray ++ (List.replicate m (Value.int .u8 0)).toArray ++ Builtin.zeroCells (Value.cells (.int .u8 0)) (grownCap w (n + m) cap e - (n + m))) e)) := by
 have hfit := growslice_fits (bytes := 1) hgr (by omega)
 have hfo := run_firstCells_some (P := P) w.drew 1 n ⟨g, 0, none⟩ n cap olds (by omega) (by simpa using holds)
 have hnn : ¬ (n + m ≤ cap) := by omega
 have hw : IntKind.i64.wrap (m : Int) = m := by rw [IntKind.wrap_i64]; omega
 have h1 : ¬ ((m : Int) < 0) := by omega
 have h2 : ¬ (281474976710656 < (m : Int)) := by omega
 have h63' : ¬ (9223372036854775807 < ((n : Int) + (m : Int))) := by omega
 have h48' : ¬ (281474976710656 < Builtin.nextslicecap (n + m) cap) := by omega
 have h0 : ¬ m = 0 := by omega
 simp [Builtin.append_, run_underlying ht, run_underlying hu, sizeOf, typeInfo, zeroValue, hi, hz, hsize, hby, asInt, asIntOf, hw, h1, h2, h0, hnn, h63', h48', Question.forced, hfo, newRow, grownCap, zeroCells_one]
theorem wpList_append_zeros {ops : Array Oper} {rest : List Oper} {o : Oper} {a : Act} {Q : Exit → Act → World → Prop} (hgd : o.guard = none) (s x : Operand) (t u : TypeId)
  (ho : o.op = .call { callee := .builtin .append, args := #[s, x], argTypes := #[t, u] })
  (base : Nat) (e : TypeId) (i : TypeInfo) (ht : P.underlying t = some (.slice e)) (hu : P.underlying u = some (.int .i64)) (hi : P.info? e = some i) (hz : i.zero = some (.int .u8 0)) (hsize : i.size = 1) (hby : i.bytes = 1)
  (g n cap : Nat) (zs : List Int) (hs : a.eval s = .slice (some ⟨g, 0, none⟩) n cap) (hown : w.ownsRow base e 1 (.slice (some ⟨g, 0, none⟩) n cap) n (zs.map (Value.int .u8))) (m : Nat) (hx : a.eval x = .int .i64 m)
  (hm : m ≤ 1000) (hn : n ≤ 1000000) (hbase : base ≤ w.heap.size)
  (h : ∀ g' cap' w' ys, Hid (zs ++ List.replicate m 0 = ys) → w'.ownsRow base e 1 (.slice (some ⟨g', 0, none⟩) (n + m) cap') (n + m) (ys.map (Value.int .u8)) → w.grownBy w' (some g) → wpList P ops Q rest (a.put o.dst (.slice (some ⟨g', 0, none⟩) (n + m) cap')) w') :
  wpList P ops Q (o :: rest) a w := by
 have hrep : (zs ++ List.replicate m 0).map (Value.int .u8) = zs.map (Value.int .u8) ++ List.replicate m (Value.int .u8 0) := by simp
 have hl := hown.1
 simp only [Nat.mul_one] at hl
 refine wpList_plain hgd fun K hK => ?_
 obtain ⟨g', cap', w', hr, h2, h3⟩ : ∃ g' cap' w', (Builtin.append_ #[t, u] o.type #[.slice (some ⟨g, 0, none⟩) n cap, .int .i64 m]).run P w = .ok (.slice (some ⟨g', 0, none⟩) (n + m) cap') w' ∧
   w'.ownsRow base e 1 (.slice (some ⟨g', 0, none⟩) (n + m) cap') (n + m) ((zs ++ List.replicate m 0).map (Value.int .u8)) ∧ w.grownBy w' (some g) := by
  rw [hrep]
  rcases hown.2 with ⟨h', _⟩ | ⟨g1, cap1, cur, h', hbg, hg, hnc, hcm, hcs, htake⟩
  ·simp at h'
  simp only [Value.slice.injEq, Option.some.injEq, Addr.mk.injEq, and_true, true_and] at h'
  obtain ⟨rfl, rfl⟩ := h'
  simp only [Nat.mul_one] at hcs htake
  by_cases hroom : n + m ≤ cap
  ·refine ⟨g, cap, _, run_zeros_room (P := P) w t u o.type e i ht hu hi hz hsize hby g n cap cur hg m hm hroom (by omega), ⟨by simp [hl], .inr ⟨g, cap, _, rfl, hbg, setRow_heap w g cur _ e _ hg, hroom, hcm, ?_, ?_⟩⟩, ⟨rfl, rfl, rfl, by simp, fun k _ hk => setRow_other w g k _ (fun e => hk (by simp [e]))⟩⟩
   ·simp; omega
   rw [htake]
   have : (n + m) * 1 = (zs.map (Value.int .u8) ++ List.replicate m (Value.int .u8 0)).length := by simp [hl]
   rw [this]
   exact List.take_left
  have hge := grownCap_ge w (n + m) cap e
  refine ⟨_, _, _, run_zeros_grow (P := P) w t u o.type e i ht hu hi hz hsize hby g n cap _ hl (hown.cells (g := g) rfl) m hm hn hnc (by omega), ⟨by simp [hl], .inr ⟨w.heap.size, _, _, rfl, hbase, heap_alloc_new w.drew _, hge, grownCap_le_maxLen w (n + m) cap e (by unfold maxLen; omega), ?_, ?_⟩⟩, ⟨rfl, rfl, rfl, by simp, fun k hk _ => Below.heap_alloc w.drew _ k hk⟩⟩
  ·simp only [Array.size_append, List.size_toArray, size_zeroCells, List.length_replicate, hl]
   simp [Value.cells]
   omega
  simp only [Array.toList_append]
  have : (n + m) * 1 = (zs.map (Value.int .u8) ++ List.replicate m (Value.int .u8 0)).length := by simp [hl]
  rw [this]
  exact List.take_left
 unfold Oper.wp
 simp [execOp, ho, resolve, invoke, builtin, hs, hx, hr, Result.andThen]
 exact hK _ _ (h g' cap' w' _ rfl h2 h3)
end
end Go.Proofs.YtjdikhelabibnaaGreat
