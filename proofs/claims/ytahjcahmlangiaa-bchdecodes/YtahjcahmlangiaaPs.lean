/-
  poly.Trim (without Add: PolyRoots' seat).
-/
import Derived.Test.YtahjcahmlangiaaAx
import Derived.Laws.OwnMore
namespace Go.Proofs.Ytahjcahmlangiaa
open Go.RowKit Go.Shelf

/-- The slice v (in block g, if it is not empty) holds the bytes s. -/
structure Arg (w : World) (v : Value) (g : Nat) (s : List Nat) : Prop where
  ex : ∃ ao c, v = .slice ao s.length c ∧ s.length ≤ c ∧ c ≤ maxLen ∧ (ao = none → c = 0) ∧ Row w ao g (ints s)
  bs : Bs s

theorem Arg.below {w w' : World} {v : Value} {g : Nat} {s : List Nat} (h : Arg w v g s) (k : Below w.heap.size w w') : Arg w' v g s := by
  obtain ⟨⟨ao, c, h1, h2, h3, h4, h5⟩, hb⟩ := h
  exact ⟨⟨ao, c, h1, h2, h3, h4, h5.below k⟩, hb⟩

/-- v is of the call's own making, or nothing. -/
def Fr (n : Nat) (w : World) (v : Value) (s : List Nat) : Prop :=
  (s = [] ∧ v = .slice none 0 0) ∨ ∃ g c, v = .slice (some ⟨g, 0, none⟩) s.length c ∧ s.length ≤ c ∧ c ≤ maxLen ∧ Blk w g s ∧ n ≤ g

theorem Blk.front {w : World} {g : Nat} {s t : List Nat} (h : Blk w g s) (hl : t.length ≤ s.length) (ht : ∀ j, j < t.length → cf t j = cf s j) : Blk w g t := by
  obtain ⟨cur, h1, h2⟩ := h
  exact ⟨cur, h1, fun j hj => by rw [ht j hj]; exact h2 j (by omega)⟩

theorem Fr.below {n m : Nat} {w w' : World} {v : Value} {s : List Nat} (h : Fr n w v s) (k : Below w.heap.size w w') (hm : m ≤ n) : Fr m w' v s := by
  rcases h with h | ⟨g, c, h1, h2, h3, h4, h5⟩
  · exact .inl h
  · exact .inr ⟨g, c, h1, h2, h3, h4.below k h4.lt, by omega⟩

theorem Fr.arg {n : Nat} {w : World} {v : Value} {s : List Nat} (h : Fr n w v s) (hb : Bs s) : ∃ g, Arg w v g s ∧ n ≤ g := by
  rcases h with ⟨rfl, rfl⟩ | ⟨g, c, h1, h2, h3, h4, h5⟩
  · exact ⟨n, ⟨⟨none, 0, rfl, by simp, by simp, fun _ => rfl, .inl rfl⟩, hb⟩, Nat.le_refl _⟩
  · refine ⟨g, ⟨⟨some ⟨g, 0, none⟩, c, h1, h2, h3, fun h => by simp at h, ?_⟩, hb⟩, h5⟩
    have := h4.row (o := 0) (n := s.length)
    simpa using this

section
variable {P : Program} (w : World)
theorem append_types (t u ty e e' : TypeId) (i : TypeInfo) (ht : P.underlying t = some (.slice e)) (hu : P.underlying u = some (.slice e')) (hi : P.info? e = some i) (ao bo : Option Addr) (n c m d : Nat) :
    (Builtin.append_ #[t, u] ty #[.slice ao n c, .slice bo m d]).run P w = (Builtin.append_ #[t, t] ty #[.slice ao n c, .slice bo m d]).run P w := by
  simp [Builtin.append_, run_underlying ht, run_underlying hu, sizeOf, typeInfo, hi]

theorem wpList_append_row2 {ops : Array Oper} {rest : List Oper} {o : Oper} {a : Act} {Q : Exit → Act → World → Prop} (hgd : o.guard = none) (s x : Operand) (t u : TypeId)
    (ho : o.op = .call { callee := .builtin .append, args := #[s, x], argTypes := #[t, u] })
    (base : Nat) (e e' : TypeId) (i : TypeInfo) (ht : P.underlying t = some (.slice e)) (hu : P.underlying u = some (.slice e')) (hi : P.info? e = some i) (hz : i.zero = some (.int .u8 0)) (hsize : i.size = 1) (hby : i.bytes = 1)
    (so : Option Addr) (k n : Nat) (xs : List Value) (hs : a.eval s = .slice so n k) (hown : w.ownsRow base e 1 (.slice so n k) n xs) (ao : Option Addr) (g m c : Nat) (zs : List Int) (hx : a.eval x = .slice ao m c) (hl : zs.length = m) (hrow : Row w ao g zs)
    (hnil : ao = none → m = 0 ∧ c = 0) (hb : n + m ≤ 1000000) (hbase : base ≤ w.heap.size)
    (h : ∀ v' w', w'.ownsRow base e 1 v' (n + m) (xs ++ zs.map (Value.int .u8)) → w.grownBy w' (Value.slice so n k).ownBlock → wpList P ops Q rest (a.put o.dst v') w') : wpList P ops Q (o :: rest) a w := by
  refine wpList_plain hgd fun K hK => ?_
  obtain ⟨v', w', hr, h2, h3, h4⟩ := run_append_row (P := P) w base t o.type e i ht hi hz hsize hby _ n xs hown ao g m c zs hl hrow hnil hb hbase
  rw [← append_types (P := P) w t u o.type e e' i ht hu hi] at hr
  unfold Oper.wp
  simp [execOp, ho, resolve, invoke, builtin, hs, hx, hr, Result.andThen]
  exact hK _ _ (h v' w' h2 h3)
end

theorem infoE : (Try.prog.info? 5).map (fun i => (i.zero, i.size, i.bytes)) = some (some (.int .u8 0), 1, 1) := by kernel_rfl

theorem owns_fr {w : World} {base : Nat} {v : Value} {n : Nat} {s : List Nat} (h : w.ownsRow base 5 1 v n ((ints s).map (Value.int .u8))) : n = s.length ∧ Fr base w v s := by
  have hl := len_of_owns h
  rw [ints_len] at hl
  refine ⟨hl.symm, ?_⟩
  rcases h.2 with ⟨h', h0⟩ | ⟨g, cap, cur, rfl, hb, hg, h1, h2, h3, h4⟩
  · left
    subst h0
    exact ⟨List.eq_nil_of_length_eq_zero hl, h'⟩
  · right
    refine ⟨g, cap, by rw [hl], by omega, h2, ⟨cur, hg, fun j hj => ?_⟩, hb⟩
    have e : (cur.toList.take (n * 1))[j]? = ((ints s).map (Value.int .u8))[j]? := by rw [h4]
    rw [List.getElem?_take, if_pos (by omega), Array.getElem?_toList] at e
    rw [e, List.getElem?_map, ints, List.getElem?_map, cf_get hj]
    rfl

set_option maxRecDepth 100000 in
set_option maxHeartbeats 2000000 in
theorem trim_any (v : Value) (g : Nat) (s : List Nat) (w : World) (hA : Arg w v g s) (hs : s.length ≤ 100000) :
    Calls Try.prog 44 #[v] w fun e w' => ∃ v', e = .returned v' ∧ Fr w.heap.size w' v' (trim s) ∧ Below w.heap.size w w' := by
  obtain ⟨⟨ao, c, rfl, hc1, hc2, hnil, hr⟩, hbs⟩ := hA
  have hlt := trim_len s
  obtain ⟨i0, hi0, hz0, hz1, hz2⟩ := info_parts infoE
  have HR := hide hr
  have HN := hide hnil
  have HI := hide hi0
  clear hr hnil hi0
  go_enter Try.func44, Try.ntmps44
  go_wp2_with fail
  refine (numbers_any _ _).mono ?_
  rintro e w ⟨rfl, rfl⟩
  go_wp2_with fail
  refine (trimmed_any ao g s.length c s _ rfl (unhide HR) hc1 hc2 (unhide HN)).mono ?_
  rintro e w ⟨rfl, rfl⟩
  go_wp2_with (at_builtin; refine wpList_append_row2 _ rfl _ _ 22 62 rfl w.heap.size 5 5 i0 Try.underlying22 Try.underlying62 (unhide HI) hz0 hz1 hz2 none 0 0 [] rfl (World.ownsRow_nil _ _ _ _) ao g (trim s).length c (ints (trim s)) rfl (ints_len _) (row_trim (unhide HR)) (fun h => by have h0 := unhide HN h; exact ⟨by omega, h0⟩) (by omega) (Nat.le_refl _) ?_)
  intro v' w' ho hg
  have HF := hide (owns_fr ho).2
  have HB := hide ((Kp.refl [] w).grown hg (by intro k hk; cases hk)).below
  clear ho hg
  go_wp2
  go_ret
  exact ⟨_, rfl, unhide HF, unhide HB⟩

theorem made_zeros (m : Nat) : madeCells (Value.cells (.int .u8 0)) (m * 1) = (List.replicate m (Value.int .u8 0)).toArray := by
  apply Array.ext'
  apply List.ext_getElem?
  intro j
  by_cases hj : j < m
  · simp [madeCells, Value.cells, hj, Nat.mod_one]
  · simp [madeCells, Value.cells, hj]

/-- So many noughts are made. -/
theorem run_zeros (m : Nat) (hm : m ≤ 1000000) (w : World) : (Instr.makeSlice 22 (.int .i64 (m : Int)) (.int .i64 (m : Int))).run Try.prog w = .ok (.slice (some ⟨w.heap.size, 0, none⟩) m m) (w.alloc (.cells (List.replicate m (Value.int .u8 0)).toArray 5)) := by
  obtain ⟨i0, hi0, hz0, hz1, hz2⟩ := info_parts infoE
  have h := run_make (P := Try.prog) w 22 5 i0 (.int .u8 0) Try.underlying22 hi0 hz0 .i64 .i64 m m (by omega) (by omega) (by rw [hz2]; omega) (by omega)
  rw [hz1, Int.toNat_natCast, made_zeros] at h
  exact h

theorem blk_zeros (m : Nat) (w : World) : Blk (w.alloc (.cells (List.replicate m (Value.int .u8 0)).toArray 5)) w.heap.size (List.replicate m 0) := by
  refine ⟨_, World.alloc_heap_new w _, fun j hj => ?_⟩
  rw [List.length_replicate] at hj
  rw [cf_zeros]
  simp [hj]

end Go.Proofs.Ytahjcahmlangiaa
