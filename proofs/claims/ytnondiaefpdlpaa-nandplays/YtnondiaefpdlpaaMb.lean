/-
  bytes.Clone.
  Bits of bytes by themselves: which are 1, where two differ, turned, mixed.
  Bits of bytes by themselves: turned, mixed.
  Rows of ints in memory: of a call's own making, appended to, or handed in.
  Ints of any kind that a call owns; appended to, also in a region that draws its order.
-/
import Derived.Test.YtnondiaefpdlpaaBa
namespace Go.Proofs.Ytnondiaefpdlpaa
open Go.RowKit Go.Shelf

theorem own_none (w : World) (e : TypeId) : (w.alloc (.cells #[] e)).ownsRow w.heap.size e 1 (.slice (some ⟨w.heap.size, 0, none⟩) 0 0) 0 [] := by
  exact ⟨rfl, .inr ⟨w.heap.size, 0, #[], rfl, Nat.le_refl _, World.alloc_heap_new w _, by simp, by simp, rfl, rfl⟩⟩
theorem below_grown {n : Nat} {a w w' : World} {row : Option Nat} (h : Below n a w) (hg : w.grownBy w' row) (hn : n ≤ w.heap.size) (hr : ∀ k, row = some k → n ≤ k) : Below n a w' :=
  ⟨hg.os.trans h.os, hg.tape.trans h.tape, hg.output.trans h.output, Nat.le_trans h.size hg.size, fun k hk => (hg.block k (by omega) (fun e => by have := hr k e.symm; omega)).trans (h.block k hk)⟩

set_option maxRecDepth 100000 in
set_option maxHeartbeats 2000000 in
theorem cloneB_any (v : Value) (g : Nat) (s : List Nat) (w : World) (hA : Arg w v g s) (hs : s.length ≤ 100000) :
    Calls Try.prog 55 #[v] w fun e w' => ∃ v', e = .returned v' ∧ Fr w.heap.size w' v' s ∧ Below w.heap.size w w' := by
  obtain ⟨ao, c, hv, hc1, hc2, hnil, hr⟩ := hA.ex
  subst hv
  obtain ⟨i0, hi0, hz0, hz1, hz2⟩ := info_parts infoE
  have HI := hide hi0
  have HR := hide hr
  have HN := hide hnil
  clear hi0 hr hnil hA
  cases ao with
  | none =>
    have h0 : s = [] := by
      rcases unhide HR with h | ⟨o, h, _⟩
      · exact List.eq_nil_of_length_eq_zero (by rw [← ints_len, h]; rfl)
      · cases h
    have hc0 := unhide HN rfl
    subst h0
    subst hc0
    have hq : ∀ w : World, (binOp .eql 38 (.slice none 0 0) (.slice none 0 0)).run Try.prog w = .ok (.bool true) w := fun _ => by kernel_rfl
    rw [show ([] : List Nat).length = 0 from rfl]
    go_enter Try.func55, Try.ntmps55
    go_wp2_with fail
    go_ret
    exact ⟨_, rfl, .inl ⟨rfl, rfl⟩, Below.refl _ _⟩
  | some ad =>
    obtain ⟨n, hn⟩ : ∃ n, s.length = n := ⟨_, rfl⟩
    rw [hn] at hc1 ⊢
    have HL := hide hn
    rw [hn] at hs
    clear hn
    have hq : ∀ w : World, (binOp .eql 38 (.slice (some ad) n c) (.slice none 0 0)).run Try.prog w = .ok (.bool false) w := fun _ => by kernel_rfl
    have HE := hide (own_none w 5)
    have HKE : Hid (Below w.heap.size w (w.alloc (.cells #[] 5))) := (Below.refl _ _).alloc (Nat.le_refl _) _
    have HSRC : Hid (Row (w.alloc (.cells #[] 5)) (some ad) g (ints s)) := (unhide HR).below (unhide HKE)
    go_enter Try.func55, Try.ntmps55
    go_wp2_with (at_builtin; refine wpList_append_row _ rfl _ _ 38 rfl w.heap.size 5 i0 Try.underlying38 (unhide HI) hz0 hz1 hz2 (.slice (some ⟨w.heap.size, 0, none⟩) 0 0) 0 [] rfl (unhide HE) (some ad) g n c (ints s) rfl (by rw [ints_len]; exact unhide HL) (unhide HSRC) (fun h => by cases h) (by omega) (by simp) ?_)
    intro v2 w2 ho hg _
    have HB := hide (below_grown (unhide HKE) hg (by simp) (fun k hk => by have e2 : w.heap.size = k := Option.some.inj hk; omega))
    have HF := hide (owns_fr ho).2
    clear ho hg
    go_wp2_with fail
    go_ret
    exact ⟨_, rfl, unhide HF, unhide HB⟩

theorem Fr.shape {n : Nat} {w : World} {v : Value} {s : List Nat} (h : Fr n w v s) : ∃ to c, v = .slice to s.length c := by
  rcases h with ⟨rfl, rfl⟩ | ⟨g, c, rfl, _⟩
  · exact ⟨none, 0, rfl⟩
  · exact ⟨_, _, rfl⟩

end Go.Proofs.Ytnondiaefpdlpaa

namespace Go.Proofs.Ytnondiaefpdlpaa
open Go.RowKit Go.Shelf

/-- The bit at place k of a byte. -/
def bt (x k : Nat) : Nat := x / 2 ^ k % 2
theorem bt_le (x k : Nat) : bt x k ≤ 1 := by unfold bt; omega
theorem bt_test (x k : Nat) : bt x k = (x.testBit k).toNat := by
  unfold bt
  rw [Nat.testBit_eq_decide_div_mod_eq]
  rcases Nat.mod_two_eq_zero_or_one (x / 2 ^ k) with h | h <;> simp [h]
theorem bt_xor (x y k : Nat) : bt (x ^^^ y) k = bt x k ^^^ bt y k := by
  rw [bt_test, bt_test, bt_test, Nat.testBit_xor]
  cases x.testBit k <;> cases y.testBit k <;> rfl
theorem bt_ext {x y : Nat} (hx : x < 256) (hy : y < 256) (h : ∀ k, k < 8 → bt x k = bt y k) : x = y := by
  apply Nat.eq_of_testBit_eq
  intro k
  by_cases hk : k < 8
  · have := h k hk
    rw [bt_test, bt_test] at this
    cases h1 : x.testBit k <;> cases h2 : y.testBit k <;> simp [h1, h2] at this <;> rfl
  · rw [Nat.testBit_lt_two_pow (Nat.lt_of_lt_of_le hx (Nat.pow_le_pow_right (n := 2) (by omega) (show 8 ≤ k by omega))), Nat.testBit_lt_two_pow (Nat.lt_of_lt_of_le hy (Nat.pow_le_pow_right (n := 2) (by omega) (show 8 ≤ k by omega)))]

/-- Bit k of the bytes that f tells. -/
def bf (f : Nat → Nat) (k : Nat) : Nat := bt (f (k / 8)) (k % 8)
/-- The places of the ones among the first n bytes. -/
def onF (f : Nat → Nat) (n : Nat) : List Nat := (List.range (8 * n)).filter (fun k => bf f k == 1)

def eight : List (Fin 8) := [0, 1, 2, 3, 4, 5, 6, 7]
theorem eight_take : ∀ j : Fin 8, eight.take (j.val + 1) = eight.take j.val ++ [j] := by decide
theorem eight_val : eight.map Fin.val = List.range 8 := by decide

/-- What the first j bits of a byte tell. -/
def hitF (f : Nat → Nat) {N : Nat} (j : Nat) (i : Fin N) : List (Fin N × Fin 8) := ((eight.take j).filter (fun k => bt (f i.val) k.val == 1)).map (fun k => (i, k))
theorem hitF_zero (f : Nat → Nat) {N : Nat} (i : Fin N) : hitF f 0 i = [] := rfl
theorem hitF_one {f : Nat → Nat} {N j : Nat} {i : Fin N} (hj : j < 8) (h : bt (f i.val) j = 1) : hitF f (j + 1) i = hitF f j i ++ [(i, ⟨j, hj⟩)] := by
  unfold hitF
  rw [eight_take ⟨j, hj⟩, List.filter_append, List.map_append]
  simp [h]
theorem hitF_none {f : Nat → Nat} {N j : Nat} {i : Fin N} (hj : j < 8) (h : bt (f i.val) j = 0) : hitF f (j + 1) i = hitF f j i := by
  unfold hitF
  rw [eight_take ⟨j, hj⟩, List.filter_append, List.map_append]
  simp [h]
theorem hitF_len (f : Nat → Nat) {N : Nat} (j : Nat) (i : Fin N) : (hitF f j i).length ≤ j := by
  unfold hitF
  rw [List.length_map]
  refine Nat.le_trans (List.length_filter_le _ _) ?_
  rw [List.length_take]
  omega
def hitsF (f : Nat → Nat) {N : Nat} (pre : List (Fin N)) : List (Fin N × Fin 8) := pre.flatMap (hitF f 8)
theorem hitsF_nil (f : Nat → Nat) {N : Nat} : hitsF f ([] : List (Fin N)) = [] := rfl
theorem hitsF_snoc (f : Nat → Nat) {N : Nat} (pre : List (Fin N)) (i : Fin N) : hitsF f (pre ++ [i]) = hitsF f pre ++ hitF f 8 i := by simp [hitsF]
theorem hitsF_len (f : Nat → Nat) {N : Nat} (pre : List (Fin N)) : (hitsF f pre).length ≤ 8 * pre.length := by
  induction pre with
  | nil => simp [hitsF]
  | cons x pre ih =>
    have := hitF_len f 8 x
    simp only [hitsF, List.flatMap_cons, List.length_append, List.length_cons] at *
    omega

/-- The place that is told. -/
def pl8 {N : Nat} (x : Fin N × Fin 8) : Nat := 8 * x.1.val + x.2.val
theorem hitF_all (f : Nat → Nat) {N : Nat} (i : Fin N) : (hitF f 8 i).map pl8 = ((List.range 8).map (fun k => 8 * i.val + k)).filter (fun k => bf f k == 1) := by
  unfold hitF
  rw [← eight_val, List.map_map, List.map_map, List.filter_map, show eight.take 8 = eight from rfl]
  refine congrArg _ ?_
  refine List.filter_congr (fun k _ => ?_)
  simp only [Function.comp, bf]
  rw [show (8 * i.val + k.val) / 8 = i.val from by omega, show (8 * i.val + k.val) % 8 = k.val from by omega]
theorem hits_range (f : Nat → Nat) (n : Nat) : (List.range n).flatMap (fun i => ((List.range 8).map (fun k => 8 * i + k)).filter (fun k => bf f k == 1)) = onF f n := by
  induction n with
  | zero => rfl
  | succ n ih =>
    rw [show List.range (n + 1) = List.range n ++ [n] from List.range_succ, List.flatMap_append, ih]
    unfold onF
    rw [show 8 * (n + 1) = 8 * n + 8 from by omega, List.range_add, List.filter_append]
    simp
theorem hitsF_all {f : Nat → Nat} {N : Nat} {pre : List (Fin N)} (h : pre.map Fin.val = List.range N) : (hitsF f pre).map pl8 = onF f N := by
  rw [← hits_range, ← h]
  clear h
  induction pre with
  | nil => rfl
  | cons x pre ih =>
    rw [hitsF, List.flatMap_cons, List.map_append, hitF_all, List.map_cons, List.flatMap_cons]
    exact congrArg _ ih

theorem bit_u8 {x : Nat} (m : Nat) (hx : x < 256) : bits .and .u8 ((x : Int) / 2 ^ m) 1 = ((bt x m : Nat) : Int) := by
  have h := (bits_nat .u8 8 (by decide) wraps_u8 (x / 2 ^ m) 1 (Nat.lt_of_le_of_lt (Nat.div_le_self _ _) hx) (by omega)).1
  rw [Nat.and_one_is_mod] at h
  rw [show (x : Int) / 2 ^ m = ((x / 2 ^ m : Nat) : Int) from by simp]
  exact h
end Go.Proofs.Ytnondiaefpdlpaa

namespace Go.Proofs.Ytnondiaefpdlpaa
open Go.RowKit Go.Shelf

/-- Bit k of bytes turned. -/
def flip1 (w : List Nat) (k : Nat) : List Nat := w.set (k / 8) (cf w (k / 8) ^^^ 2 ^ (k % 8))
theorem pow_lt8 (k : Nat) : 2 ^ (k % 8) < 256 := Nat.lt_of_lt_of_le (Nat.pow_lt_pow_right (a := 2) (by omega) (show k % 8 < 8 by omega)) (by decide)
theorem flip1_len (w : List Nat) (k : Nat) : (flip1 w k).length = w.length := by simp [flip1]
theorem flip1_bs {w : List Nat} (h : Bs w) (k : Nat) : Bs (flip1 w k) := by
  unfold flip1
  intro i
  by_cases hk : k / 8 < w.length
  · rw [cf_set _ _ _ _ hk]
    by_cases e : i = k / 8
    · rw [if_pos e]; exact xor_lt (h _) (pow_lt8 k)
    · rw [if_neg e]; exact h i
  · rw [List.set_eq_of_length_le (by omega)]; exact h i

/-- A number's bit turned, if it is one's. -/
def flZ (s : List Nat) (z : Int) : List Nat := if 0 ≤ z ∧ z < 8 * (s.length : Int) then flip1 s z.toNat else s
def flipZ (s : List Nat) (zs : List Int) : List Nat := zs.foldl flZ s
theorem flZ_len (s : List Nat) (z : Int) : (flZ s z).length = s.length := by
  unfold flZ; split
  · exact flip1_len _ _
  · rfl
theorem flipZ_len (s : List Nat) (zs : List Int) : (flipZ s zs).length = s.length := by
  induction zs generalizing s with
  | nil => rfl
  | cons z zs ih => rw [flipZ, List.foldl_cons, ← flipZ, ih, flZ_len]
theorem flZ_bs {s : List Nat} (h : Bs s) (z : Int) : Bs (flZ s z) := by
  unfold flZ; split
  · exact flip1_bs h _
  · exact h
theorem flipZ_bs {s : List Nat} (h : Bs s) (zs : List Int) : Bs (flipZ s zs) := by
  induction zs generalizing s with
  | nil => exact h
  | cons z zs ih => exact ih (flZ_bs h z)
theorem flipZ_snoc (s : List Nat) (zs : List Int) (z : Int) : flipZ s (zs ++ [z]) = flZ (flipZ s zs) z := by rw [flipZ, List.foldl_append]; rfl
theorem flipZ_take {s : List Nat} {zs : List Int} {i : Nat} (h : i < zs.length) : flipZ s (zs.take (i + 1)) = flZ (flipZ s (zs.take i)) (zs.getD i 0) := by rw [take_snoc _ _ h, flipZ_snoc]
theorem flZ_yes {s : List Nat} {k : Nat} (h : k / 8 < s.length) : flZ s (k : Int) = s.set (k / 8) (cf s (k / 8) ^^^ 2 ^ (k % 8)) := by
  rw [flZ, if_pos ⟨by omega, by omega⟩, Int.toNat_natCast]; rfl
theorem flZ_far {s : List Nat} {k : Nat} (h : ¬ k / 8 < s.length) : flZ s (k : Int) = s := by rw [flZ, if_neg (by omega)]
theorem flZ_neg {s : List Nat} {z : Int} (h : z < 0) : flZ s z = s := by rw [flZ, if_neg (by omega)]

/-- A byte mixed out of two by a mask's byte. -/
def mx (m x y : Nat) : Nat := (x ^^^ (x &&& m)) ||| (y &&& m)
/-- Which byte of the mask counts. -/
def mAt (mask : List Nat) (i : Nat) : Nat := cf mask (i % mask.length)
/-- Mixed. -/
def mixF (a b mask : List Nat) : List Nat := if mask = [] then a else (List.range a.length).map (fun i => mx (mAt mask i) (cf a i) (cf b i))
def mixL (a b mask : List Nat) : List Nat := if a.length = b.length then mixF a b mask else []
theorem mixF_len (a b mask : List Nat) : (mixF a b mask).length = a.length := by
  unfold mixF; split <;> simp
theorem cf_mixF {a b mask : List Nat} {i : Nat} (h : i < a.length) (hm : mask ≠ []) : cf (mixF a b mask) i = mx (mAt mask i) (cf a i) (cf b i) := by
  rw [mixF, if_neg hm, ← cf_getD, List.getD_eq_getElem?_getD, List.getElem?_map, List.getElem?_range h]
  rfl
theorem mx_lt {m x y : Nat} (hx : x < 256) (hy : y < 256) : mx m x y < 256 := by
  unfold mx
  exact Nat.or_lt_two_pow (n := 8) (Nat.xor_lt_two_pow (n := 8) hx (Nat.lt_of_le_of_lt Nat.and_le_left hx)) (Nat.lt_of_le_of_lt Nat.and_le_left hy)
theorem bt_mx (m x y k : Nat) : bt (mx m x y) k = if bt m k = 1 then bt y k else bt x k := by
  unfold mx
  rw [bt_test, bt_test, bt_test, bt_test, Nat.testBit_or, Nat.testBit_xor, Nat.testBit_and, Nat.testBit_and]
  cases m.testBit k <;> cases x.testBit k <;> cases y.testBit k <;> rfl
theorem andNot_u8 {x : Nat} (m : Nat) (hx : x < 256) : bits .andNot .u8 (x : Int) (m : Int) = ((x ^^^ (x &&& m) : Nat) : Int) := by
  have hz : x ^^^ (x &&& m) < 256 := Nat.xor_lt_two_pow (n := 8) hx (Nat.lt_of_le_of_lt Nat.and_le_left hx)
  have h : (BitVec.ofNat 8 x &&& ~~~ BitVec.ofNat 8 m) = BitVec.ofNat 8 (x ^^^ (x &&& m)) := by
    apply BitVec.eq_of_getLsbD_eq
    intro i hi
    simp only [BitVec.getLsbD_and, BitVec.getLsbD_not, BitVec.getLsbD_ofNat, Nat.testBit_xor, Nat.testBit_and, hi, decide_true, Bool.true_and]
    cases x.testBit i <;> cases m.testBit i <;> rfl
  show IntKind.u8.wrap (((BitVec.ofInt 8 (x : Int) &&& ~~~ BitVec.ofInt 8 (m : Int)).toNat : Nat) : Int) = _
  rw [BitVec.ofInt_natCast, BitVec.ofInt_natCast, h, BitVec.toNat_ofNat, Nat.mod_eq_of_lt hz]
  exact wraps_u8 _ (by omega) (by omega)
theorem mx_u8 {m x y : Nat} (hx : x < 256) (hy : y < 256) (hm : m < 256) :
    bits .andNot .u8 (x : Int) (m : Int) = ((x ^^^ (x &&& m) : Nat) : Int) ∧ bits .and .u8 (y : Int) (m : Int) = ((y &&& m : Nat) : Int) ∧ bits .or .u8 ((x ^^^ (x &&& m) : Nat) : Int) ((y &&& m : Nat) : Int) = ((mx m x y : Nat) : Int) :=
  ⟨andNot_u8 m hx, (bits_nat .u8 8 (by decide) wraps_u8 y m hy hm).1, (bits_nat .u8 8 (by decide) wraps_u8 _ _ (Nat.xor_lt_two_pow (n := 8) hx (Nat.lt_of_le_of_lt Nat.and_le_left hx)) (Nat.lt_of_le_of_lt Nat.and_le_left hy)).2⟩
theorem mixF_bs {a b mask : List Nat} (ha : Bs a) (hb : Bs b) : Bs (mixF a b mask) := by
  by_cases hm : mask = []
  · rw [mixF, if_pos hm]; exact ha
  · intro i
    by_cases hi : i < a.length
    · rw [cf_mixF hi hm]; exact mx_lt (ha i) (hb i)
    · rw [cf_ge (by rw [mixF_len]; omega)]; omega
end Go.Proofs.Ytnondiaefpdlpaa

namespace Go.Proofs.Ytnondiaefpdlpaa
open Go.RowKit Go.Shelf

section
variable {P : Program} (w : World)
theorem run_append_int (base : Nat) (t ty e : TypeId) (i : TypeInfo) (ht : P.underlying t = some (.slice e)) (hi : P.info? e = some i) (hz : i.zero = some (.int .i64 0)) (hsize : i.size = 1) (hby : i.bytes = 8)
    (v : Value) (n : Nat) (xs : List Value) (hown : w.ownsRow base e 1 v n xs) (g : Nat) (k : Int) (hc : w.cell? ⟨g, 0, none⟩ = some (.int .i64 k)) (hb : n + 1 ≤ 1000000) (hbase : base ≤ w.heap.size) :
    ∃ v' w', (Builtin.append_ #[t, t] ty #[v, .slice (some ⟨g, 0, none⟩) 1 1]).run P w = .ok v' w' ∧ w'.ownsRow base e 1 v' (n + 1) (xs ++ [.int .i64 k]) ∧ w.grownBy w' v.ownBlock := by
  obtain ⟨v', w', h1, h2, h3, _⟩ := run_append_own (P := P) w base t ty e i (.int .i64 0) 1 8 ht hi hz hsize hby rfl (by decide) v n xs hown ⟨g, 0, none⟩ 1 1 [.int .i64 k] (by simp) (by
    intro j u hu
    obtain ⟨hj, hu⟩ := List.getElem?_eq_some_iff.1 hu
    have : j = 0 := by simpa using hj
    subst this
    rw [Addr.add_lit]
    simp at hu
    rw [← hu]
    exact hc) (ints_oneCell .i64 [k]) (by unfold maxLen; omega) (by omega) hbase
  exact ⟨v', w', h1, h2, h3⟩

theorem wpList_append_int {ops : Array Oper} {rest : List Oper} {o : Oper} {a : Act} {Q : Exit → Act → World → Prop} (hgd : o.guard = none) (s x : Operand) (t : TypeId)
    (ho : o.op = .call { callee := .builtin .append, args := #[s, x], argTypes := #[t, t] })
    (base : Nat) (e : TypeId) (i : TypeInfo) (ht : P.underlying t = some (.slice e)) (hi : P.info? e = some i) (hz : i.zero = some (.int .i64 0)) (hsize : i.size = 1) (hby : i.bytes = 8)
    (v : Value) (n : Nat) (xs : List Value) (hs : a.eval s = v) (hown : w.ownsRow base e 1 v n xs) (g : Nat) (k : Int) (hx : a.eval x = .slice (some ⟨g, 0, none⟩) 1 1) (hc : w.cell? ⟨g, 0, none⟩ = some (.int .i64 k))
    (hb : n + 1 ≤ 1000000) (hbase : base ≤ w.heap.size)
    (h : ∀ v' w', w'.ownsRow base e 1 v' (n + 1) (xs ++ [.int .i64 k]) → w.grownBy w' v.ownBlock → wpList P ops Q rest (a.put o.dst v') w') : wpList P ops Q (o :: rest) a w := by
  refine wpList_plain hgd fun K hK => ?_
  obtain ⟨v', w', hr, h2, h3⟩ := run_append_int (P := P) w base t o.type e i ht hi hz hsize hby v n xs hown g k hc hb hbase
  unfold Oper.wp
  simp [execOp, ho, resolve, invoke, builtin, hs, hx, hr, Result.andThen]
  exact hK _ _ (h v' w' h2 h3)
end

theorem infoI : (Try.prog.info? 3).map (fun i => (i.zero, i.size, i.bytes)) = some (some (.int .i64 0), 1, 8) := by kernel_rfl

/-- The call owns these places. -/
def OwnI (base : Nat) (w : World) (v : Value) (l : List Nat) : Prop := w.ownsRow base 3 1 v l.length ((ints l).map (Value.int .i64))

theorem OwnI.nil (base : Nat) (w : World) : OwnI base w (.slice none 0 0) [] := World.ownsRow_nil _ _ _ _

theorem OwnI.snoc {base : Nat} {w : World} {v : Value} {l : List Nat} {k : Nat} (h : w.ownsRow base 3 1 v (l.length + 1) ((ints l).map (Value.int .i64) ++ [.int .i64 (k : Int)])) : OwnI base w v (l ++ [k]) := by
  unfold OwnI
  rw [List.length_append, ints, List.map_append, List.map_append]
  exact h

theorem OwnI.keep {base : Nat} {w w' : World} {v : Value} {l : List Nat} (h : OwnI base w v l) (k : ∀ b, base ≤ b → b < w.heap.size → w'.heap[b]? = w.heap[b]?) : OwnI base w' v l := by
  refine ⟨h.1, ?_⟩
  rcases h.2 with h' | ⟨g, cap, cur, h1, h2, h3, h4⟩
  · exact .inl h'
  · exact .inr ⟨g, cap, cur, h1, h2, (k g h2 (Array.getElem?_eq_some_iff.1 h3).1).trans h3, h4⟩

theorem OwnI.shape {base : Nat} {w : World} {v : Value} {l : List Nat} (h : OwnI base w v l) : (v = .slice none 0 0 ∧ l = []) ∨ ∃ g cap, v = .slice (some ⟨g, 0, none⟩) l.length cap ∧ base ≤ g ∧ g < w.heap.size ∧ l.length ≤ cap ∧ cap ≤ maxLen ∧ ∀ j, j < l.length → w.cell? ⟨g, j, none⟩ = some (.int .i64 ((cf l j : Nat) : Int)) := by
  rcases h.2 with ⟨h', h0⟩ | ⟨g, cap, cur, h1, h2, h3, h4, h5, h6, h7⟩
  · exact .inl ⟨h', List.eq_nil_of_length_eq_zero h0⟩
  · refine .inr ⟨g, cap, h1, h2, (Array.getElem?_eq_some_iff.1 h3).1, h4, h5, fun j hj => ?_⟩
    have e : (cur.toList.take (l.length * 1))[j]? = ((ints l).map (Value.int .i64))[j]? := by rw [h7]
    rw [List.getElem?_take, if_pos (by omega), Array.getElem?_toList] at e
    have h8 : cur[j]? = some (.int .i64 ((cf l j : Nat) : Int)) := by
      rw [e, List.getElem?_map, ints, List.getElem?_map, cf_get hj]
      rfl
    simp [World.cell?, h3, h8]

theorem OwnI.arg {base : Nat} {w : World} {v : Value} {l : List Nat} (h : OwnI base w v l) : ∃ g, IArg w v g l ∧ base ≤ g := by
  rcases h.shape with ⟨rfl, rfl⟩ | ⟨g, cap, rfl, h1, h2, h3, h4, h5⟩
  · exact ⟨base, ⟨none, 0, rfl, by simp, by simp, fun _ => rfl, .inl rfl⟩, Nat.le_refl _⟩
  · refine ⟨g, ⟨some ⟨g, 0, none⟩, cap, rfl, h3, h4, (fun h => by cases h), .inr ⟨0, rfl, fun j hj => ?_⟩⟩, h1⟩
    rw [ints_len] at hj
    rw [Nat.zero_add, ints_getD]
    exact h5 j hj

theorem take_mem {ps : List Nat} {j k : Nat} (hj : j < ps.length) : k ∈ ps.take (j + 1) ↔ k ∈ ps.take j ∨ cf ps j = k := by
  have : ps.take (j + 1) = ps.take j ++ [cf ps j] := by
    rw [List.take_succ_eq_append_getElem hj]
    have := cf_get hj
    rw [List.getElem?_eq_getElem hj] at this
    simp at this
    rw [this]
  rw [this, List.mem_append, List.mem_singleton]
  exact ⟨fun h => h.imp id Eq.symm, fun h => h.imp id Eq.symm⟩

theorem ints_nodup {l : List Nat} (h : l.Nodup) : (ints l).Nodup := List.Pairwise.map _ (fun _ _ hne e => hne (by omega)) h

/-- The slice v holds the numbers zs. -/
structure ZArg (w : World) (v : Value) (g : Nat) (zs : List Int) : Prop where
  ex : ∃ ao c, v = .slice ao zs.length c ∧ zs.length ≤ c ∧ c ≤ maxLen ∧ (ao = none → c = 0) ∧ IRow w ao g zs
  bd : ∀ z ∈ zs, -9223372036854775808 ≤ z ∧ z ≤ 9223372036854775807

theorem ZArg.below {w w' : World} {v : Value} {g : Nat} {l : List Int} (h : ZArg w v g l) (k : Below w.heap.size w w') : ZArg w' v g l := by
  obtain ⟨⟨ao, c, h1, h2, h3, h4, h5⟩, hb⟩ := h
  exact ⟨⟨ao, c, h1, h2, h3, h4, h5.below k⟩, hb⟩

theorem irow_some' {w : World} {ao : Option Addr} {g : Nat} {zs : List Int} (hr : IRow w ao g zs) (hs : 0 < zs.length) : ∃ o, ao = some ⟨g, o, none⟩ ∧ ∀ j, j < zs.length → w.cell? ⟨g, o + j, none⟩ = some (.int .i64 (zs.getD j 0)) := by
  rcases hr with h | ⟨o, h, hc⟩
  · rw [h] at hs; simp at hs
  · exact ⟨o, h, hc⟩

theorem ZArg.lt {w : World} {v : Value} {g : Nat} {zs : List Int} (h : ZArg w v g zs) (hs : zs ≠ []) : g < w.heap.size := by
  obtain ⟨⟨ao, c, _, _, _, _, h5⟩, _⟩ := h
  have hl : 0 < zs.length := List.length_pos_iff.2 hs
  obtain ⟨o, _, hc⟩ := irow_some' h5 hl
  exact block_lt_of_cell (hc 0 hl)

theorem take_getD {zs : List Int} {i : Nat} (h : i < zs.length) (z : Int) : z ∈ zs.take (i + 1) ↔ z ∈ zs.take i ∨ zs.getD i 0 = z := by
  rw [take_snoc _ _ h, List.mem_append, List.mem_singleton]
  exact ⟨fun h => h.imp id Eq.symm, fun h => h.imp id Eq.symm⟩

theorem getD_mem {zs : List Int} {i : Nat} (h : i < zs.length) : zs.getD i 0 ∈ zs := by
  rw [List.getD_eq_getElem?_getD, List.getElem?_eq_getElem h]
  exact List.getElem_mem h

theorem OwnI.z {base : Nat} {w : World} {v : Value} {l : List Nat} (h : OwnI base w v l) (hb : ∀ k ∈ l, k < 1000000) : ∃ g, ZArg w v g (ints l) ∧ base ≤ g := by
  obtain ⟨g, ⟨ao, c, h1, h2, h3, h4, h5⟩, hg⟩ := h.arg
  refine ⟨g, ⟨⟨ao, c, by rw [ints_len]; exact h1, by rw [ints_len]; exact h2, h3, h4, h5⟩, fun z hz => ?_⟩, hg⟩
  obtain ⟨k, hk, rfl⟩ := List.mem_map.1 hz
  have := hb k hk
  omega
theorem OwnI.za {base : Nat} {w : World} {v : Value} {l : List Nat} (h : OwnI base w v l) (hb : ∀ k ∈ l, k < 1000000) : ∃ ao c g, v = .slice ao l.length c ∧ ZArg w (.slice ao l.length c) g (ints l) := by
  obtain ⟨g, hz, _⟩ := h.z hb
  obtain ⟨⟨ao, c, h1, h2, h3, h4, h5⟩, hbd⟩ := hz
  rw [ints_len] at h1
  exact ⟨ao, c, g, h1, by rw [← h1]; exact ⟨⟨ao, c, by rw [h1, ints_len], h2, h3, h4, h5⟩, hbd⟩⟩
theorem zarg_row {w : World} {ao : Option Addr} {n c g : Nat} {zs : List Int} (h : ZArg w (.slice ao n c) g zs) : IRow w ao g zs := by
  obtain ⟨⟨ao', c', h1, h2, h3, h4, h5⟩, hb⟩ := h
  injection h1 with e1 e2 e3
  subst e1
  exact h5
theorem OwnI.below {base : Nat} {w w' : World} {v : Value} {l : List Nat} (h : OwnI base w v l) (k : Below w.heap.size w w') : OwnI base w' v l := h.keep (fun b _ hb => k.block b hb)
theorem OwnI.mono {base b' : Nat} {w : World} {v : Value} {l : List Nat} (h : OwnI base w v l) (hb : b' ≤ base) : OwnI b' w v l := by
  refine ⟨h.1, ?_⟩
  rcases h.2 with h' | ⟨g, cap, cur, h1, h2, h3, h4⟩
  · exact .inl h'
  · exact .inr ⟨g, cap, cur, h1, Nat.le_trans hb h2, h3, h4⟩
end Go.Proofs.Ytnondiaefpdlpaa

namespace Go.Proofs.Ytnondiaefpdlpaa
open Go.RowKit Go.Shelf

/-- The call owns these numbers. -/
def OwnZ (base : Nat) (w : World) (v : Value) (zs : List Int) : Prop := w.ownsRow base 3 1 v zs.length (zs.map (Value.int .i64))
theorem OwnZ.nil (base : Nat) (w : World) : OwnZ base w (.slice none 0 0) [] := World.ownsRow_nil _ _ _ _
theorem OwnZ.none (w : World) : OwnZ w.heap.size (w.alloc (.cells #[] 3)) (.slice (some ⟨w.heap.size, 0, none⟩) 0 0) [] := own_none w 3
theorem OwnZ.snoc {base : Nat} {w : World} {v : Value} {l : List Int} {k : Int} (h : w.ownsRow base 3 1 v (l.length + 1) (l.map (Value.int .i64) ++ [.int .i64 k])) : OwnZ base w v (l ++ [k]) := by
  unfold OwnZ
  rw [List.length_append, List.map_append]
  exact h
theorem OwnZ.keep {base : Nat} {w w' : World} {v : Value} {l : List Int} (h : OwnZ base w v l) (k : ∀ b, base ≤ b → b < w.heap.size → w'.heap[b]? = w.heap[b]?) : OwnZ base w' v l := by
  refine ⟨h.1, ?_⟩
  rcases h.2 with h' | ⟨g, cap, cur, h1, h2, h3, h4⟩
  · exact .inl h'
  · exact .inr ⟨g, cap, cur, h1, h2, (k g h2 (Array.getElem?_eq_some_iff.1 h3).1).trans h3, h4⟩
theorem OwnZ.below {base : Nat} {w w' : World} {v : Value} {l : List Int} (h : OwnZ base w v l) (k : Below w.heap.size w w') : OwnZ base w' v l := h.keep (fun b _ hb => k.block b hb)
theorem OwnZ.row {base : Nat} {w : World} {v : Value} {l : List Int} (h : OwnZ base w v l) (k : Nat) (hk : v.ownBlock = some k) : base ≤ k := by
  rcases h.2 with ⟨h1, _⟩ | ⟨g, cap, cur, h1, h2, _⟩
  · rw [h1] at hk; cases hk
  · rw [h1] at hk; cases hk; exact h2
theorem OwnZ.za {base : Nat} {w : World} {v : Value} {l : List Int} (h : OwnZ base w v l) (hb : ∀ z ∈ l, -9223372036854775808 ≤ z ∧ z ≤ 9223372036854775807) : ∃ ao c g, v = .slice ao l.length c ∧ ZArg w (.slice ao l.length c) g l ∧ (ao = Option.none → c = 0) := by
  rcases h.2 with ⟨h', h0⟩ | ⟨g, cap, cur, h1, h2, h3, h4, h5, h6, h7⟩
  · have hl : l = [] := List.eq_nil_of_length_eq_zero h0
    subst hl
    exact ⟨Option.none, 0, 0, h', ⟨⟨Option.none, 0, rfl, by simp, by simp, fun _ => rfl, .inl rfl⟩, hb⟩, fun _ => rfl⟩
  · refine ⟨some ⟨g, 0, Option.none⟩, cap, g, h1, ⟨⟨some ⟨g, 0, Option.none⟩, cap, rfl, h4, h5, (fun h => by cases h), .inr ⟨0, rfl, fun j hj => ?_⟩⟩, hb⟩, fun h => by cases h⟩
    have e : (cur.toList.take (l.length * 1))[j]? = (l.map (Value.int .i64))[j]? := by rw [h7]
    rw [List.getElem?_take, if_pos (by omega), Array.getElem?_toList] at e
    have h8 : cur[j]? = some (.int .i64 (l.getD j 0)) := by
      rw [e, List.getElem?_map, List.getElem?_eq_getElem hj, List.getD_eq_getElem?_getD, List.getElem?_eq_getElem hj]
      rfl
    rw [Nat.zero_add]
    simp [World.cell?, h3, h8]

theorem zarg_in {w : World} {ao : Option Addr} {g len cap : Nat} {zs : List Int} (l : zs.length = len) (r : IRow w ao g zs) (b : ∀ z ∈ zs, -9223372036854775808 ≤ z ∧ z ≤ 9223372036854775807) (c : len ≤ cap) (n : ao = none → len = 0 ∧ cap = 0) (m : cap ≤ maxLen) : ZArg w (.slice ao len cap) g zs :=
  ⟨⟨ao, cap, by rw [l], by omega, m, fun h => (n h).2, r⟩, b⟩

section
/-- Ints from wherever they lie go behind what the call owns. -/
theorem run_append_z (w : World) (base : Nat) (ty : TypeId) (v : Value) (xs zs : List Int) (hown : OwnZ base w v xs) (ao : Option Addr) (g m c : Nat) (hl : zs.length = m) (hrow : IRow w ao g zs) (hnil : ao = none → m = 0 ∧ c = 0) (hb : xs.length + m ≤ 1000000) (hbase : base ≤ w.heap.size) :
    ∃ v' w', (Builtin.append_ #[24, 24] ty #[v, .slice ao m c]).run Try.prog w = .ok v' w' ∧ OwnZ base w' v' (xs ++ zs) ∧ w.grownBy w' v.ownBlock := by
  obtain ⟨i0, hi, hz0, hz1, hz2⟩ := info_parts infoI
  cases ao with
  | none =>
    obtain ⟨rfl, rfl⟩ := hnil rfl
    have h0 : zs = [] := List.eq_nil_of_length_eq_zero hl
    subst h0
    exact ⟨v, w, run_append_owned_none (P := Try.prog) w base 24 ty 3 i0 1 Try.underlying24 hi v _ _ hown, by simpa using hown, World.grownBy.refl _ _⟩
  | some ad =>
    obtain ⟨v', w', h1, h2, h3, _⟩ := run_append_own (P := Try.prog) w base 24 ty 3 i0 (.int .i64 0) 1 8 Try.underlying24 hi hz0 hz1 hz2 rfl (by decide) v _ _ hown ad m c (zs.map (Value.int .i64)) (by simp [hl]) (by
      intro j u hu
      obtain ⟨hj, hu⟩ := List.getElem?_eq_some_iff.1 hu
      simp only [List.length_map] at hj
      rcases hrow with rfl | ⟨o, ho, hc⟩
      · simp at hj
      · cases ho
        rw [Addr.add_lit, hc j hj]
        simp [← hu, List.getD_eq_getElem?_getD, hj]) (ints_oneCell _ _) (by unfold maxLen; omega) (by omega) hbase
    refine ⟨v', w', h1, ?_, h3⟩
    unfold OwnZ
    rw [List.length_append, hl, List.map_append]
    exact h2

theorem wp_append_z {o : Oper} {a : Act} {w : World} {K : Act → World → Prop} {Q : Exit → Act → World → Prop} (s x : Operand) (ho : o.op = .call { callee := .builtin .append, args := #[s, x], argTypes := #[24, 24] })
    (base : Nat) (v : Value) (xs zs : List Int) (hs : a.eval s = v) (hown : OwnZ base w v xs) (ao : Option Addr) (g m c : Nat) (hx : a.eval x = .slice ao m c) (hl : zs.length = m) (hrow : IRow w ao g zs) (hnil : ao = none → m = 0 ∧ c = 0) (hb : xs.length + m ≤ 1000000) (hbase : base ≤ w.heap.size)
    (hK : ∀ v' w', OwnZ base w' v' (xs ++ zs) → w.grownBy w' v.ownBlock → K (a.put o.dst v') w') : o.wp Try.prog a w K Q := by
  obtain ⟨v', w', hr, h2, h3⟩ := run_append_z w base o.type v xs zs hown ao g m c hl hrow hnil hb hbase
  unfold Oper.wp
  simp [execOp, ho, resolve, invoke, builtin, hs, hx, hr, Result.andThen]
  exact hK _ _ h2 h3

theorem wp_append_b {o : Oper} {a : Act} {w : World} {K : Act → World → Prop} {Q : Exit → Act → World → Prop} (s x : Operand) (ho : o.op = .call { callee := .builtin .append, args := #[s, x], argTypes := #[38, 38] })
    (base : Nat) (v : Value) (n : Nat) (xs : List Value) (zs : List Int) (hs : a.eval s = v) (hown : w.ownsRow base 5 1 v n xs) (ao : Option Addr) (g m c : Nat) (hx : a.eval x = .slice ao m c) (hl : zs.length = m) (hrow : Row w ao g zs) (hnil : ao = none → m = 0 ∧ c = 0) (hb : n + m ≤ 1000000) (hbase : base ≤ w.heap.size)
    (hK : ∀ v' w', w'.ownsRow base 5 1 v' (n + m) (xs ++ zs.map (Value.int .u8)) → w.grownBy w' v.ownBlock → K (a.put o.dst v') w') : o.wp Try.prog a w K Q := by
  obtain ⟨i0, hi, hz0, hz1, hz2⟩ := info_parts infoE
  obtain ⟨v', w', hr, h2, h3, _⟩ := run_append_row (P := Try.prog) w base 38 o.type 5 i0 Try.underlying38 hi hz0 hz1 hz2 v n xs hown ao g m c zs hl hrow hnil hb hbase
  unfold Oper.wp
  simp [execOp, ho, resolve, invoke, builtin, hs, hx, hr, Result.andThen]
  exact hK _ _ h2 h3
end

end Go.Proofs.Ytnondiaefpdlpaa
