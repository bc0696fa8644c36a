/-
  gf.Mul: the product of any two.
-/
import Derived.Test.YtjdikhelabibnaaGreatPick3
namespace Go.Proofs.YtjdikhelabibnaaGreat
open Go.RowKit Go.Shelf
attribute [local go_sem] Oper.semAt_some


theorem cell_of_box {W : World} {B : Nat} {v : Value} {t : TypeId} (h : W.heap[B]? = some (.cells #[v] t (0, 0))) : W.cell? ⟨B, 0, none⟩ = some v ∧ W.frozen? ⟨B, 0, none⟩ = false := by
  constructor <;> simp [World.cell?, World.frozen?, h]

theorem cell_new' (W : World) (v : Value) (t : TypeId) : (W.alloc (.cells #[v] t)).cell? ⟨W.heap.size, 0, none⟩ = some v ∧ (W.alloc (.cells #[v] t)).frozen? ⟨W.heap.size, 0, none⟩ = false :=
  cell_of_box (World.alloc_heap_new W _)

theorem box_below {w w' : World} {B n : Nat} {v : Value} (h : w.cell? ⟨B, 0, none⟩ = some v ∧ w.frozen? ⟨B, 0, none⟩ = false) (k : Below n w w') (hB : B < n) : w'.cell? ⟨B, 0, none⟩ = some v ∧ w'.frozen? ⟨B, 0, none⟩ = false :=
  ⟨(k.cell (p := ⟨B, 0, none⟩) hB).trans h.1, (World.frozen?_of_block (k.block B hB)).trans h.2⟩

theorem bits_xor_nat (k : IntKind) (j : Nat) (hj : j ≤ k.bits) (hk : ∀ n : Int, 0 ≤ n → n < 2 ^ j → k.wrap n = n) (a b : Nat) (ha : a < 2 ^ j) (hb : b < 2 ^ j) : bits .xor k a b = ((a ^^^ b : Nat) : Int) := by
  have hp : 2 ^ j ≤ 2 ^ k.bits := Nat.pow_le_pow_right (by decide) hj
  have ha' : a % 2 ^ k.bits = a := Nat.mod_eq_of_lt (Nat.lt_of_lt_of_le ha hp)
  have hb' : b % 2 ^ k.bits = b := Nat.mod_eq_of_lt (Nat.lt_of_lt_of_le hb hp)
  have cast : ∀ n : Nat, n < 2 ^ j → ((n : Nat) : Int) < 2 ^ j := fun n h => by exact_mod_cast h
  simp only [bits, BitVec.ofInt_natCast, BitVec.toNat_xor, BitVec.toNat_ofNat, ha', hb']
  exact hk _ (Int.natCast_nonneg _) (cast _ (Nat.xor_lt_two_pow ha hb))

theorem bits_xor_u8 {a b : Nat} (ha : a < 256) (hb : b < 256) : bits .xor .u8 (a : Int) (b : Int) = ((a ^^^ b : Nat) : Int) :=
  bits_xor_nat .u8 8 (by decide) wraps_u8 a b ha hb

/-- The sum of what has come. -/
def sumX (pre : List (Fin 256)) : Nat := (pre.map Fin.val).foldl (· ^^^ ·) 0

theorem sumX_snoc (pre : List (Fin 256)) (x : Fin 256) : sumX (pre ++ [x]) = sumX pre ^^^ x.val := by simp [sumX, List.foldl_append]

theorem sumX_lt (pre : List (Fin 256)) : sumX pre < 256 := by
  have : ∀ (l : List (Fin 256)) (s : Nat), s < 256 → (l.map Fin.val).foldl (· ^^^ ·) s < 256 := by
    intro l
    induction l with
    | nil => intro s h; simpa using h
    | cons x l ih => intro s h; simp only [List.map_cons, List.foldl_cons]; exact ih _ (xor_lt h x.isLt)
  exact this pre 0 (by omega)

set_option maxRecDepth 100000 in
set_option maxHeartbeats 4000000 in
theorem mul_any (a b : Nat) (ha : a < 256) (hb : b < 256) (w : World) :
    Calls Tryz.prog 131 #[.int .u8 a, .int .u8 b] w fun e W' => e = .returned (.int .u8 (gmul a b : Nat)) ∧ Below w.heap.size w W' := by
  refine (callsIn_wide (n := 3)).1 ?_
  refine callsIn_of_wp_marks Tryz.func131 rfl trivial ?_ rfl
  simp only [Tryz.ntmps131, List.size_toArray, List.length_cons, List.length_nil, Nat.reduceAdd, Nat.reduceSub, Array.replicate_succ, Array.replicate_zero, List.push_toArray, List.append_toArray, List.nil_append, List.cons_append]
  have s0 := cell_new' w (.int .u8 0) 5
  gi_wp2
  refine ⟨trivial, (callsIn_wide.2 (doubles_any a _)).mono ?_⟩
  rintro e w1 ⟨rfl, hk1⟩
  gi_wp2
  refine ⟨trivial, (callsIn_wide.2 (picked_any a 159 b _)).mono ?_⟩
  rintro e w2 ⟨Bc, Bm, rfl, hcap, hc1, hm1, hc2, hm2, hk2⟩
  have hz := hk1.size
  have hz2 := hk2.size
  simp only [World.size_alloc] at hz
  have hB2 : Below w.heap.size w w2 := (((Below.refl _ w).alloc (Nat.le_refl _) _).trans (hk1.mono (by simp))).trans (hk2.mono (by omega))
  have s2 := box_below (box_below s0 hk1 (by simp)) hk2 (by omega)
  clear hk1 hk2 s0
  gi_wp2
  refine wpIn_rangeFunc_ownF rfl (by omega) (gf := 160) (lb := #[.pointer (some ⟨Bc, 0, none⟩), .pointer (some ⟨Bm, 0, none⟩)]) rfl trivial (enters_of Tryz.func160 (by kernel_rfl) rfl)
    (picked_double_stops (fun x w hx => (double_any x hx w).mono (fun e w' h => ⟨h.1, by rw [h.2]; exact Below.refl _ _⟩)) (fun x hx => dbl_lt hx) [w.heap.size] 2 Bc Bm w2.heap.size a b 8 ha hb (by omega) w2 hcap hc2 hm2 (Nat.le_refl _) (by simp; omega) (by simp; omega))
    (fun h k => h.trans k) (kq_b (Nat.le_refl _)) (Below.refl _ _) (fun _ => rfl)
    (fun pre W => (W.cell? ⟨w.heap.size, 0, none⟩ = some (.int .u8 (sumX pre : Nat)) ∧ W.frozen? ⟨w.heap.size, 0, none⟩ = false) ∧ Below w.heap.size w W)
    (fun _ _ _ => False)
    (OwnFrom.and (Own.from (fun s A B row hs hg hr => ⟨cell_kept hs.1 hg hr, (frozen_kept hs.1 hg hr).trans hs.2⟩) _) (ownFrom_below (Nat.le_refl _) hB2.size))
    (fun _ _ _ _ _ hs _ _ => hs)
    ⟨s2, hB2⟩
    (fun x => { tmps := #[.int .u8 a, .int .u8 b, undef, undef, .int .u8 0, .pointer (some ⟨w.heap.size, 0, none⟩), .int .u8 x.val, .int .u8 a, .agg #[.int .u8 a, .func (.func 159) #[] #[]], .int .u8 b, .int .u64 b, .func (.func 160) #[] #[.pointer (some ⟨Bc, 0, none⟩), .pointer (some ⟨Bm, 0, none⟩)], .int .u8 x.val, undef, undef, undef, undef], defers := [] }) ?assign ?body ?done ?stop
  case assign =>
    intro l x W K hK
    gi_wp2
    exact hK
  case body =>
    rintro l pre x W ⟨⟨hc, hf⟩, hB⟩ _
    have hx := x.isLt
    have hs := sumX_lt pre
    have hxor := bits_xor_u8 hs hx
    gi_wp2
    refine ⟨KeepsOthers.setCell _ _ _, (Kq.refl _ _ W).setCell ⟨w.heap.size, 0, none⟩ _ (by simp), ⟨?_, by rw [World.frozen?_setCell]; exact hf⟩, hB.setCell (p := ⟨w.heap.size, 0, none⟩) (Nat.le_refl _) _⟩
    rw [sumX_snoc]
    exact World.cell?_setCell_same' _ _ _ (by rw [hc]; rfl)
  case done =>
    rintro D ys W hD hys ⟨⟨hc, _⟩, hB⟩ hK
    gi_wp2
    refine ⟨by simp, .inl ⟨_, _, rfl, run_takeDeferred hK, ?_⟩⟩
    refine ⟨_, results_tmp rfl _ _ _, ?_, hB.trans (belowK_b (w := w) (Nat.le_refl _) W D _ _ (by omega) hK rfl rfl)⟩
    have e : sumX ys = gmul a b := by unfold sumX; rw [hys]; exact mul_picks a b
    rw [← e]
    rfl
  case stop =>
    rintro D c pre W _ _ h _
    exact h.elim

end Go.Proofs.YtjdikhelabibnaaGreat
