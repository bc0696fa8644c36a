/-
  
-/
import Derived.Test.YtjdikhelabibnaaGreatMag
import Derived.RangeFuncBox
import Derived.OwnWalkIn
import Derived.Test.YtjdikhelabibnaaGreatMad
import Derived.Test.YtjdikhelabibnaaGreatMaf
namespace Go.Proofs.YtjdikhelabibnaaGreat
open Go.RowKit Go.Shelf
attribute [local go_sem] Oper.semAt_some
theorem boxed_own {β : Type} (B : Nat) (t : TypeId) (u : Value) : Own (fun (_ : β) W => Boxed W B t u) := fun _ X _ _ h hg hr => h.kept hg (fun e => by
 obtain ⟨o, ho, hc⟩ := hr B e.symm
 rw [show X.heap[B]? = _ from h] at ho
 cases ho
 cases hc)
theorem results_cells2 {P : Program} {fn : Func} {p q : Tmp} {t u : TypeId} (h : fn.results = #[.cell p t, .cell q u]) (tmps : Array Value) (w : World) (a b : Addr) (x y : Value) (hp : tmps.getD p undef = .pointer (some a)) (hq : tmps.getD q undef = .pointer (some b)) (hx : (loadVar t a).run P w = .ok x w) (hy : (loadVar u b).run P w = .ok y w) :
  (results fn tmps).run P w = .ok (.tuple #[x, y]) w := by
 rw [Array.getD_eq_getD_getElem?] at hp hq
 simp only [results, h]
 simp [Result.andThen, hp, hq, asAddr, hx, hy]
theorem Boxed.below {w w' : World} {B : Nat} {t : TypeId} {v : Value} (h : Boxed w B t v) (k : Below w.heap.size w w') : Boxed w' B t v := (k.block _ h.lt).trans h
end Go.Proofs.YtjdikhelabibnaaGreat

namespace Go.Proofs.YtjdikhelabibnaaGreat
open Go.RowKit Go.Shelf
def OwnZ (base : Nat) (w : World) (v : Value) (zs : List Int) : Prop := w.ownsRow base 3 1 v zs.length (zs.map (Value.int .i64))
section
theorem run_append_z (w : World) (base : Nat) (ty : TypeId) (v : Value) (xs zs : List Int) (hown : OwnZ base w v xs) (ao : Option Addr) (g m c : Nat) (hl : zs.length = m) (hrow : IRow w ao g zs) (hnil : ao = none → m = 0 ∧ c = 0) (hb : xs.length + m ≤ 1000000) (hbase : base ≤ w.heap.size) :
  ∃ v' w', (Builtin.append_ #[34, 34] ty #[v, .slice ao m c]).run Tryz.prog w = .ok v' w' ∧ OwnZ base w' v' (xs ++ zs) ∧ w.grownBy w' v.ownBlock := by
 obtain ⟨i0, hi, hz0, hz1, hz2⟩ := info_parts infoI
 cases ao with
 | none =>
  obtain ⟨rfl, rfl⟩ := hnil rfl
  have h0 : zs = [] := List.eq_nil_of_length_eq_zero hl
  subst h0
  exact ⟨v, w, run_append_owned_none (P := Tryz.prog) w base 34 ty 3 i0 1 Tryz.underlying34 hi v _ _ hown, by simpa using hown, World.grownBy.refl _ _⟩
 | some ad =>
  obtain ⟨v', w', h1, h2, h3, _⟩ := run_append_own (P := Tryz.prog) w base 34 ty 3 i0 (.int .i64 0) 1 8 Tryz.underlying34 hi hz0 hz1 hz2 rfl (by decide) v _ _ hown ad m c (zs.map (Value.int .i64)) (by simp [hl]) (by
   intro j u hu
   obtain ⟨hj, hu⟩ := List.getElem?_eq_some_iff.1 hu
   simp only [List.length_map] at hj
   rcases hrow with rfl | ⟨o, ho, hc⟩
   ·simp at hj
   cases ho
   rw [Addr.add_lit, hc j hj]
   simp [← hu, List.getD_eq_getElem?_getD, hj]) (ints_oneCell _ _) (by unfold maxLen; omega) (by omega) hbase
  refine ⟨v', w', h1, ?_, h3⟩
  unfold OwnZ
  rw [List.length_append, hl, List.map_append]
  exact h2
theorem wp_append_b {o : Oper} {a : Act} {w : World} {K : Act → World → Prop} {Q : Exit → Act → World → Prop} (s x : Operand) (ho : o.op = .call { callee := .builtin .append, args := #[s, x], argTypes := #[47, 47] })
  (base : Nat) (v : Value) (n : Nat) (xs : List Value) (zs : List Int) (hs : a.eval s = v) (hown : w.ownsRow base 5 1 v n xs) (ao : Option Addr) (g m c : Nat) (hx : a.eval x = .slice ao m c) (hl : zs.length = m) (hrow : Row w ao g zs) (hnil : ao = none → m = 0 ∧ c = 0) (hb : n + m ≤ 1000000) (hbase : base ≤ w.heap.size)
  (hK : ∀ v' w', w'.ownsRow base 5 1 v' (n + m) (xs ++ zs.map (Value.int .u8)) → w.grownBy w' v.ownBlock → K (a.put o.dst v') w') : o.wp Tryz.prog a w K Q := by
 obtain ⟨i0, hi, hz0, hz1, hz2⟩ := info_parts infoE
 obtain ⟨v', w', hr, h2, h3, _⟩ := run_append_row (P := Tryz.prog) w base 47 o.type 5 i0 Tryz.underlying47 hi hz0 hz1 hz2 v n xs hown ao g m c zs hl hrow hnil hb hbase
 unfold Oper.wp
 simp [execOp, ho, resolve, invoke, builtin, hs, hx, hr, Result.andThen]
 exact hK _ _ h2 h3
end
end Go.Proofs.YtjdikhelabibnaaGreat

namespace Go.Proofs.YtjdikhelabibnaaGreat
open Go.RowKit Go.Shelf
theorem cell_blk {w : World} {g j : Nat} {cur : Array Value} {t : TypeId} {v : Value} (h : w.heap[g]? = some (.cells cur t (0, 0))) (hc : cur[j]? = some v) : w.cell? ⟨g, j, none⟩ = some v := by simp [World.cell?, h, hc]
theorem free_blk {w : World} {g j : Nat} {cur : Array Value} {t : TypeId} (h : w.heap[g]? = some (.cells cur t (0, 0))) : w.frozen? ⟨g, j, none⟩ = false := by simp [World.frozen?, h]
def okG (D B P : Int) : Prop := (6 ≤ D ∧ D ≤ 8) ∧ (8 ≤ B ∧ B ≤ 12) ∧ 4 ≤ P ∧ P ≤ 8
instance (D B P : Int) : Decidable (okG D B P) := by unfold okG; infer_instance
def okB (D B : Int) (l : List (Int × Int)) : Prop := ∀ p ∈ l, (0 ≤ p.1 ∧ p.1 < D) ∧ 0 ≤ p.2 ∧ p.2 < B
instance (D B : Int) (l : List (Int × Int)) : Decidable (okB D B l) := by unfold okB; infer_instance
theorem wp_append_run (w : World) {o : Oper} {a : Act} {K : Act → World → Prop} {Q : Exit → Act → World → Prop} (d s : Operand) (t t' : TypeId)
  (ho : o.op = .call { callee := .builtin .append, args := #[d, s], argTypes := #[t, t'] }) (v u : Value) (hd : a.eval d = v) (hs : a.eval s = u) {v' : Value} {w' : World}
  (hr : (Builtin.append_ #[t, t'] o.type #[v, u]).run Tryz.prog w = .ok v' w') (h : K (a.put o.dst v') w') : o.wp Tryz.prog a w K Q := by
 unfold Oper.wp execOp
 simp only [ho, resolve, invoke, builtin, Sem.run_bind, Sem.run_pure, Result.andThen_ok, List.map_toArray, List.map_cons, List.map_nil, hd, hs, hr]
 exact h
theorem results_cell7 {P : Program} {fn : Func} {p : Tmp} {ty : TypeId} (h : fn.results = #[.cell p ty]) (tmps : Array Value) (w : World) (ad : Addr) (x : Value) (hp : tmps.getD p undef = .pointer (some ad)) (hl : (loadVar ty ad).run P w = .ok x w) :
  (results fn tmps).run P w = .ok x w := by
 rw [Array.getD_eq_getD_getElem?] at hp
 simp only [results, h]
 simp [hp, asAddr, hl]
theorem run_load_agg9 {P : Program} {o : Oper} {a : Act} {W : World} {ty : TypeId} {x : Operand} {ad : Addr} {v : Value} (ho : o.op = .load ty x) (hx : a.eval x = .pointer (some ad)) (hl : (loadVar ty ad).run P W = .ok v W) : (execOp a.eval o).run P W = .ok (.value v) W := by
 unfold execOp
 simp only [ho, hx, Instr.loadAt, Instr.sureAddr, Sem.run_bind, Sem.run_pure, Result.andThen_ok, hl]
theorem wpList_append_run {ops : Array Oper} {rest : List Oper} {o : Oper} {a : Act} {Q : Exit → Act → World → Prop} (hgd : o.guard = none) (w : World) (d s : Operand) (t t' : TypeId)
  (ho : o.op = .call { callee := .builtin .append, args := #[d, s], argTypes := #[t, t'] }) (v u : Value) (hd : a.eval d = v) (hs : a.eval s = u) {v' : Value} {w' : World}
  (hr : (Builtin.append_ #[t, t'] o.type #[v, u]).run Tryz.prog w = .ok v' w') (h : wpList Tryz.prog ops Q rest (a.put o.dst v') w') : wpList Tryz.prog ops Q (o :: rest) a w :=
 wpList_plain hgd fun _ hK => wp_append_run w d s t t' ho v u hd hs hr (hK _ _ h)
end Go.Proofs.YtjdikhelabibnaaGreat

namespace Go.Proofs.YtjdikhelabibnaaGreat
open Go
section
variable {P : Program} {ops : Array Oper} {Q : Exit → Act → World → Prop} {md : Region.Mode} {kk : Nat} {S : World → Prop}
def anyK (P : Program) (md : Region.Mode) (ops : Array Oper) (Q : Exit → Act → World → Prop) (kk : Nat) (S : World → Prop) : Nat → Array Bool → Act → World → Prop
 | 0, listed, a, w => Region.ready md ops listed = [] ∧ Q .normal a w
 | fuel + 1, listed, a, w => (Region.ready md ops listed = [] → Q .normal a w) ∧ ∀ i ∈ Region.ready md ops listed,
   wpOp P ops Q i (fun a' w' => ((listed.setIfInBounds i true).getD kk true = false → S w') ∧ anyK P md ops Q kk S fuel (listed.setIfInBounds i true) a' w') a w
theorem any_of_K : ∀ (fuel : Nat) (listed : Array Bool) (a : Act) (w : World), anyK P md ops Q kk S fuel listed a w → wpAny P md ops Q fuel listed a w
 | 0, _, _, _, h => h
 | fuel + 1, _, _, _, h => ⟨h.1, fun i hi => wpOp_mono (fun a' w' h' => any_of_K fuel _ a' w' h'.2) (h.2 i hi)⟩
theorem firstK {i : Nat} {oi ok : Oper} {v : Value} (hi : ops[i]? = some oi) (hok : ops[kk]? = some ok) (hik : i ≠ kk) (hwait : ∃ e ∈ ok.after, Region.binds md e = true ∧ e.on = i)
  (hsel : ∀ (j : Nat) (o : Oper) cs b, ops[j]? = some o → o.op ≠ .select cs b) (hQ : ∀ c a w, Q (.panic c) (a.put oi.dst v) w → Q (.panic c) a w) :
  ∀ (fuel : Nat) (listed : Array Bool) (a : Act) (w : World),
   (∀ j oj, ops[j]? = some oj → j ≠ i → listed.getD j true = false → (∀ e ∈ oj.after, Region.binds md e = true → e.on ≠ i) → oi.apart ops oj = true) →
   i ∈ Region.ready md ops listed → listed.getD kk true = false → YieldsIf P ops S oi v a → S w →
   anyK P md ops Q kk S fuel (listed.setIfInBounds i true) (a.put oi.dst v) w → anyK P md ops Q kk S (fuel + 1) listed a w := by
 intro fuel
 induction fuel with
 | zero =>
  intro listed a w _ hr _ hy hS H
  refine ⟨fun h => (by rw [h] at hr; cases hr), fun j hj => ?_⟩
  by_cases hji : j = i
  ·subst hji; exact hy.wpOp hi hS ⟨fun _ => hS, H⟩
  have := ready_mono hj hji
  rw [H.1] at this
  cases this
 | succ fuel ih =>
  intro listed a w hfree hr hkl hy hS H
  refine ⟨fun h => (by rw [h] at hr; cases hr), fun j hj => ?_⟩
  by_cases hji : j = i
  ·subst hji; exact hy.wpOp hi hS ⟨fun _ => hS, H⟩
  have h1 := H.2 j (ready_mono hj hji)
  obtain ⟨hjun, oj, hoj, hall⟩ := mem_ready.1 hj
  have hnot : ∀ e ∈ oj.after, Region.binds md e = true → e.on ≠ i := fun e he hb heq => by
   have h1 := hall e he hb
   have h0 := (mem_ready.1 hr).1
   rw [heq] at h1
   rcases Nat.lt_or_ge i listed.size with h' | h'
   ·simp [h'] at h0 h1; rw [h0] at h1; cases h1
   simp [Array.getElem?_eq_none h'] at h1
  have hjk : j ≠ kk := fun e => by
   subst e
   rw [hok] at hoj
   cases hoj
   obtain ⟨e, he, hb, ho⟩ := hwait
   exact hnot e he hb ho
  have hkl2 : (listed.setIfInBounds j true).getD kk true = false := by rw [getD_set_ne true hjk]; exact hkl
  have hkl3 : ((listed.setIfInBounds i true).setIfInBounds j true).getD kk true = false := by rw [getD_set_ne true hjk, getD_set_ne true hik]; exact hkl
  have h2 := wpOp_putIf hoj (hfree j oj hoj hji hjun hnot) (fun cs b => hsel i oi cs b hi) (fun cs b => hsel j oj cs b hoj) hQ hy h1
  have hfree' : ∀ k ok, ops[k]? = some ok → k ≠ i → (listed.setIfInBounds j true).getD k true = false →
    (∀ e ∈ ok.after, Region.binds md e = true → e.on ≠ i) → oi.apart ops ok = true := fun k ok hk hki hun hno => by
   refine hfree k ok hk hki ?_ hno
   by_cases hjk : j = k
   ·subst hjk; exact hjun
   rw [getD_set_ne true hjk] at hun; exact hun
  refine wpOp_mono (fun a' w' h3 => ⟨fun _ => h3.2.1 hkl3, ih (listed.setIfInBounds j true) a' w' hfree' (ready_mono hr (Ne.symm hji)) hkl2 h3.1 (h3.2.1 hkl3) ?_⟩) h2
  rw [Array.setIfInBounds_comm _ _ hji]
  exact h3.2.2
end
section
variable {P : Program} {l : List Oper} {Q : Exit → Act → World → Prop} {md : Region.Mode} {kk : Nat} {S : World → Prop}
def waits (md : Region.Mode) (l : List Oper) (kk i : Nat) : Bool := match l[kk]? with
 | some o => o.after.any (fun e => Region.binds md e && e.on == i)
 | none => false
theorem takeK {i : Nat} {oi : Oper} {v : Value} {fuel : Nat} {listed : Array Bool} {a : Act} {w : World} (hi : l[i]? = some oi) (hw : waits md l kk i = true) (hik : (i == kk) = false)
  (hs : Region.noSelect l.toArray = true) (hf : Region.free md l.toArray listed i = true) (hr : (Region.ready md l.toArray listed).contains i = true) (hkl : listed.getD kk true = false)
  (hQ : ∀ c a w, Q (.panic c) (a.put oi.dst v) w → Q (.panic c) a w) (hy : YieldsIf P l.toArray S oi v a) (hS : S w)
  (h : anyK P md l.toArray Q kk S fuel (listed.setIfInBounds i true) (a.put oi.dst v) w) : anyK P md l.toArray Q kk S (fuel + 1) listed a w := by
 unfold waits at hw
 cases hok : l[kk]? with
 | none => rw [hok] at hw; cases hw
 | some ok =>
  rw [hok] at hw
  obtain ⟨e, he, hb⟩ := Array.any_iff_exists.1 hw
  obtain ⟨hlt, _, hb⟩ := hb
  rw [Bool.and_eq_true, beq_iff_eq] at hb
  exact firstK (by simpa using hi) (ok := ok) (by simpa using hok) (by simpa using hik) ⟨_, Array.getElem_mem he, hb.1, hb.2⟩ (Region.noSelect_spec hs) hQ fuel listed a w (Region.free_spec (by simpa using hi) hf) (by simpa using hr) hkl hy hS h
def allK (P : Program) (md : Region.Mode) (ops : Array Oper) (Q : Exit → Act → World → Prop) (kk : Nat) (S : World → Prop) (fuel : Nat) (listed : Array Bool) (a : Act) (w : World) (rs : List Nat) : Prop :=
 ∀ i ∈ rs, wpOp P ops Q i (fun a' w' => ((listed.setIfInBounds i true).getD kk true = false → S w') ∧ anyK P md ops Q kk S fuel (listed.setIfInBounds i true) a' w') a w
theorem nilK {ops : Array Oper} {fuel : Nat} {listed : Array Bool} {a : Act} {w : World} : allK P md ops Q kk S fuel listed a w [] := fun _ h => by cases h
theorem consK {fuel : Nat} {listed : Array Bool} {a : Act} {w : World} {i : Nat} {o : Oper} {rs : List Nat} (ho : l[i]? = some o)
  (h : ∀ K' : Act → World → Prop, Shut (∀ a w, ((listed.setIfInBounds i true).getD kk true = false → S w) → anyK P md l.toArray Q kk S fuel (listed.setIfInBounds i true) a w → K' a w) → if Region.wanted o (yielded l.toArray a.tmps) = true then Oper.wp P o a w K' Q else K' (a.put o.dst undef) w)
  (hs : allK P md l.toArray Q kk S fuel listed a w rs) : allK P md l.toArray Q kk S fuel listed a w (i :: rs) := fun j hj => by
 rcases List.mem_cons.1 hj with rfl | hj
 ·exact wpOp_step (by simpa using ho) (fun K' hK => h K' (fun a w hS hW => hK a w ⟨hS, hW⟩))
 exact hs j hj
theorem readyK {ops : Array Oper} {rs : List Nat} {fuel : Nat} {listed : Array Bool} {a : Act} {w : World} (hr : Region.ready md ops listed = rs) (hne : rs ≠ []) (h : allK P md ops Q kk S fuel listed a w rs) : anyK P md ops Q kk S (fuel + 1) listed a w :=
 ⟨fun h0 => absurd (hr ▸ h0) hne, hr ▸ h⟩
theorem doneK {ops : Array Oper} {listed : Array Bool} {a : Act} {w : World} (hr : Region.ready md ops listed = []) (h : Q .normal a w) : ∀ fuel, anyK P md ops Q kk S fuel listed a w
 | 0 => ⟨hr, h⟩
 | _ + 1 => ⟨fun _ => h, by rw [hr]; simp⟩
theorem regionK {ops : Array Oper} {id : Nat} {a : Act} {w : World} (hm : P.follows .mixedOrders = true) (h : anyK P .any ops Q kk S ops.size (Array.replicate ops.size false) a w.drew) : (Code.region id ops true).wp P Q a w :=
 wp_region_any hm (any_of_K _ _ _ _ h)
end
end Go.Proofs.YtjdikhelabibnaaGreat

namespace Go.Proofs.YtjdikhelabibnaaGreat
def rc (l : List (List Nat)) (i k : Nat) : Nat := cf (l.getD i []) k
def shP (d i : Nat) : Nat := if i = d + 1 then 0 else 1
def shQ (d i : Nat) : Nat := if i = d then 0 else if i = d + 1 then 1 else E i
theorem shP_lt (d i : Nat) : shP d i < 256 := by unfold shP; split <;> omega
theorem shQ_lt (d i : Nat) : shQ d i < 256 := by
 unfold shQ
 split
 ·omega
 split
 ·omega
 exact E_lt _
def sm (c : Nat → Nat) (l : List (List Nat)) (is : List Nat) (k : Nat) : Nat := xsum (fun i => gmul (rc l i k) (c i)) is
def smL (c : Nat → Nat) (l : List (List Nat)) (is : List Nat) (n : Nat) : List Nat := (List.range n).map (sm c l is)
theorem cf_range (f : Nat → Nat) (n i : Nat) : cf ((List.range n).map f) i = if i < n then f i else 0 := by
 rw [← cf_getD, List.getD_eq_getElem?_getD, List.getElem?_map]
 by_cases h : i < n
 ·rw [List.getElem?_range h, if_pos h]; rfl
 rw [List.getElem?_eq_none (by simpa using h), if_neg h]; rfl
theorem smL_len (c : Nat → Nat) (l : List (List Nat)) (is : List Nat) (n : Nat) : (smL c l is n).length = n := by simp [smL]
theorem cf_smL (c : Nat → Nat) (l : List (List Nat)) (is : List Nat) (n k : Nat) : cf (smL c l is n) k = if k < n then sm c l is k else 0 := cf_range _ _ _
theorem sm_lt {c : Nat → Nat} {l : List (List Nat)} {is : List Nat} {k : Nat} (h : ∀ i, Bs (l.getD i [])) : sm c l is k < 256 := xsum_lt (fun i _ => gmul_lt (h i k))
theorem smL_bs {c : Nat → Nat} {l : List (List Nat)} {is : List Nat} {n : Nat} (h : ∀ i, Bs (l.getD i [])) : Bs (smL c l is n) := fun k => by
 rw [cf_smL]
 split
 ·exact sm_lt h
 omega
theorem smL_nil (c : Nat → Nat) (l : List (List Nat)) (n : Nat) : smL c l [] n = List.replicate n 0 := by
 refine eq_of_cf (by simp [smL]) (fun i => ?_)
 rw [cf_smL, cf_replicate]
 simp [sm]
def addK (s r : List Nat) (c k : Nat) : List Nat := (List.range s.length).map (fun j => if j < k then cf s j ^^^ gmul (cf r j) c else cf s j)
def addF (s r : List Nat) (c : Nat) : List Nat := (List.range s.length).map (fun j => cf s j ^^^ gmul (cf r j) c)
theorem addK_len (s r : List Nat) (c k : Nat) : (addK s r c k).length = s.length := by simp [addK]
theorem addF_len (s r : List Nat) (c : Nat) : (addF s r c).length = s.length := by simp [addF]
theorem cf_addK (s r : List Nat) (c k j : Nat) : cf (addK s r c k) j = if j < s.length then (if j < k then cf s j ^^^ gmul (cf r j) c else cf s j) else 0 := cf_range _ _ _
theorem cf_addF (s r : List Nat) (c j : Nat) : cf (addF s r c) j = if j < s.length then cf s j ^^^ gmul (cf r j) c else 0 := cf_range _ _ _
theorem addK_zero (s r : List Nat) (c : Nat) : addK s r c 0 = s := by
 refine eq_of_cf (addK_len _ _ _ _) (fun j => ?_)
 rw [cf_addK]
 by_cases h : j < s.length
 ·rw [if_pos h, if_neg (by omega)]
 rw [if_neg h, cf_ge (by omega)]
theorem addK_all {s r : List Nat} {c k : Nat} (h : s.length ≤ k) : addK s r c k = addF s r c := by
 refine eq_of_cf (by rw [addK_len, addF_len]) (fun j => ?_)
 rw [cf_addK, cf_addF]
 by_cases h' : j < s.length
 ·rw [if_pos h', if_pos (by omega), if_pos h']
 rw [if_neg h', if_neg h']
theorem addK_at {s r : List Nat} {c k : Nat} (hk : k < s.length) : cf (addK s r c k) k = cf s k := by rw [cf_addK, if_pos hk, if_neg (by omega)]
theorem addK_step {s r : List Nat} {c k : Nat} (hk : k < s.length) : (addK s r c k).set k (cf s k ^^^ gmul (cf r k) c) = addK s r c (k + 1) := by
 refine eq_of_cf (by simp [addK]) (fun j => ?_)
 rw [cf_set _ _ _ _ (by rw [addK_len]; exact hk), cf_addK, cf_addK]
 by_cases h : j = k
 ·subst h; rw [if_pos rfl, if_pos hk, if_pos (by omega)]
 rw [if_neg h]
 by_cases h' : j < s.length
 ·rw [if_pos h', if_pos h']
  by_cases h2 : j < k
  ·rw [if_pos h2, if_pos (by omega)]
  rw [if_neg h2, if_neg (by omega)]
 rw [if_neg h', if_neg h']
theorem addF_smL (c : Nat → Nat) (l : List (List Nat)) (is : List Nat) (n x : Nat) : addF (smL c l is n) (l.getD x []) (c x) = smL c l (is ++ [x]) n := by
 refine eq_of_cf (by rw [addF_len, smL_len, smL_len]) (fun j => ?_)
 rw [cf_addF, smL_len, cf_smL, cf_smL]
 by_cases h : j < n
 ·rw [if_pos h, if_pos h, if_pos h]
  simp [sm, xsum_append, rc]
 rw [if_neg h, if_neg h]
def evn (l : List (List Nat)) : Prop := ∀ i, i < l.length → (l.getD i []).length = (l.getD 0 []).length
def size (l : List (List Nat)) : Nat := (l.getD 0 []).length
def parP (l : List (List Nat)) : List Nat := smL (fun _ => 1) l (List.range l.length) (size l)
def parQ (l : List (List Nat)) : List Nat := smL E l (List.range l.length) (size l)
theorem sm_congr {c c' : Nat → Nat} {l : List (List Nat)} {is : List Nat} {k : Nat} (h : ∀ i ∈ is, c i = c' i) : sm c l is k = sm c' l is k := xsum_congr (fun i hi => by rw [h i hi])
theorem smL_congr {c c' : Nat → Nat} {l : List (List Nat)} {is : List Nat} {n : Nat} (h : ∀ i ∈ is, c i = c' i) : smL c l is n = smL c' l is n := List.map_congr_left (fun _ _ => sm_congr h)
theorem smL_parP (l : List (List Nat)) : smL (shP l.length) l (List.range l.length) (size l) = parP l := smL_congr (fun i hi => by
 have := List.mem_range.1 hi
 unfold shP
 rw [if_neg (by omega)])
theorem smL_parQ (l : List (List Nat)) : smL (shQ l.length) l (List.range l.length) (size l) = parQ l := smL_congr (fun i hi => by
 have := List.mem_range.1 hi
 unfold shQ
 rw [if_neg (by omega), if_neg (by omega)])
def evnB (l : List (List Nat)) : Bool := l.all (fun r => decide (r.length = size l))
theorem evn_iff (l : List (List Nat)) : evnB l = true ↔ evn l := by
 unfold evnB evn
 rw [List.all_eq_true]
 refine ⟨fun h i hi => ?_, fun h r hr => ?_⟩
 ·rw [List.getD_eq_getElem?_getD, List.getElem?_eq_getElem hi]
  exact of_decide_eq_true (h _ (List.getElem_mem hi))
 obtain ⟨i, hi, rfl⟩ := List.mem_iff_getElem.1 hr
 have := h i hi
 rw [List.getD_eq_getElem?_getD, List.getElem?_eq_getElem hi] at this
 exact decide_eq_true this
theorem evn_of {l : List (List Nat)} {n : Nat} (h : ∀ i, i < l.length → (l.getD i []).length = n) : evn l := fun i hi => by rw [h i hi, h 0 (by omega)]
theorem not_evn {l : List (List Nat)} {i j : Nat} (hi : i < l.length) (hj : j < l.length) (h : (l.getD i []).length ≠ (l.getD j []).length) : evnB l = false := by
 cases he : evnB l with
 | false => rfl
 | true =>
  have := (evn_iff l).1 he
  exact absurd ((this i hi).trans (this j hj).symm) h
def okP (l : List (List Nat)) : Bool := decide (2 ≤ l.length) && decide (l.length ≤ 14) && evnB l
def pP (l : List (List Nat)) : List Nat := if okP l = true then parP l else []
def pQ (l : List (List Nat)) : List Nat := if okP l = true then parQ l else []
def nil0 (s : List Nat) : Bool := s.all (fun x => x == 0)
theorem nil0_iff (s : List Nat) : nil0 s = true ↔ ∀ k, k < s.length → cf s k = 0 := by
 unfold nil0
 rw [List.all_eq_true]
 refine ⟨fun h k hk => ?_, fun h x hx => ?_⟩
 ·have := h _ (List.mem_of_getElem? (cf_get hk))
  simpa using this
 obtain ⟨k, hk, rfl⟩ := List.mem_iff_getElem.1 hx
 have h1 := h k hk
 have h2 := cf_get hk
 rw [List.getElem?_eq_getElem hk] at h2
 simp at h2
 simp [h2, h1]
def allP (l : List (List Nat)) : List Nat := smL (shP (l.length - 2)) l (List.range l.length) (size l)
def allQ (l : List (List Nat)) : List Nat := smL (shQ (l.length - 2)) l (List.range l.length) (size l)
def okC (l : List (List Nat)) : Bool := decide (4 ≤ l.length) && decide (l.length ≤ 16) && evnB l
def chk (l : List (List Nat)) : Bool := okC l && nil0 (allP l) && nil0 (allQ l)
end Go.Proofs.YtjdikhelabibnaaGreat

namespace Go.Proofs.YtjdikhelabibnaaGreat
open Go.RowKit Go.Shelf
attribute [local go_sem] Oper.semAt_some
theorem IRow.kq {S : List Nat} {n : Nat} {w w' : World} (h : Kq S n w w') {ao : Option Addr} {g : Nat} {zs : List Int} (hr : IRow w ao g zs) (hg : zs ≠ [] → g < n ∧ g ∉ S) : IRow w' ao g zs := by
 rcases hr with h0 | ⟨o, rfl, hc⟩
 ·exact .inl h0
 by_cases hs : zs = []
 ·exact .inl hs
 exact .inr ⟨o, rfl, fun j hj => (World.cell?_of_block (h.block g (hg hs).1 (hg hs).2)).trans (hc j hj)⟩
theorem ZArg.kq {S : List Nat} {n : Nat} {w w' : World} (h : Kq S n w w') {v : Value} {g : Nat} {zs : List Int} (hr : ZArg w v g zs) (hg : zs ≠ [] → g < n ∧ g ∉ S) : ZArg w' v g zs := by
 obtain ⟨⟨ao, c, h1, h2, h3, h4, h5⟩, hb⟩ := hr
 exact ⟨⟨ao, c, h1, h2, h3, h4, h5.kq h hg⟩, hb⟩
set_option maxRecDepth 100000 in
set_option maxHeartbeats 2000000 in
theorem index_any (v : Value) (g : Nat) (zs : List Int) (z : Int) (w : World) (hA : ZArg w v g zs) :
  Calls Tryz.prog 149 #[v, .int .i64 z] w fun e w' => ∃ r : Int, e = .returned (.int .i64 r) ∧ w' = w ∧ ((r = -1 ∧ z ∉ zs) ∨ (0 ≤ r ∧ z ∈ zs)) := by
 obtain ⟨⟨ao, c, rfl, hc1, hc2, hnil, hr⟩, hbd⟩ := hA
 have HR := hide hr
 obtain ⟨n, hn⟩ : ∃ n, zs.length = n := ⟨_, rfl⟩
 rw [hn] at hc1 ⊢
 have HN := hide hn
 have hnm : (n : Int) ≤ 9223372036854775807 := by unfold maxLen at hc2; omega
 clear hr hnil hn hbd
 go_enter Tryz.func149, Tryz.ntmps149
 go_wp2_with fail
 go_loop [8] (fun p => ∃ i : Nat, p = .int .i64 i ∧ i ≤ n ∧ z ∉ zs.take i) (fun p => n - (intOf p).toNat)
 case atStart => exact ⟨0, rfl, by omega, by simp⟩
 case round =>
  obtain ⟨i, rfl, hi, hz⟩ := hrel
  have HZ := hide hz
  clear hz
  by_cases hlt : i < n
  ·have hi1 : (i : Int) < (n : Int) := by omega
   obtain ⟨o, rfl, hcl⟩ := irow_some' (uh HR) (by rw [uh HN]; omega)
   have hc := hcl i (by rw [uh HN]; exact hlt)
   have HM : Hid (zs.getD i 0 ∈ zs) := getD_mem (by rw [uh HN]; exact hlt)
   have HT : Hid (zs.getD i 0 ≠ z → z ∉ zs.take (i + 1)) := fun hne h => by
    rcases (take_getD (by rw [uh HN]; exact hlt) z).1 h with h | h
    ·exact uh HZ h
    exact hne h
   obtain ⟨y, hy⟩ : ∃ y, zs.getD i 0 = y := ⟨_, rfl⟩
   rw [hy] at hc HM HT
   clear hcl hy
   by_cases he : z = y
   ·have he1 : (z == y) = true := by rw [he]; simp
    have HE := hide he
    clear he
    go_wp2_with fail
    go_ret
    exact ⟨i, rfl, rfl, .inr ⟨by omega, by rw [uh HE]; exact uh HM⟩⟩
   have he1 : (z == y) = false := by rw [beq_eq_false_iff_ne]; exact he
   have HE := hide he
   clear he
   go_wp2_with fail
   go_round
   case rel => exact ⟨i + 1, by go_num, by omega, uh HT (fun h => uh HE h.symm)⟩
   case measure => simp [intOf]; omega
  have hi2 : i = n := by omega
  subst hi2
  go_wp2
  go_ret
  exact ⟨-1, rfl, rfl, .inl ⟨rfl, by have h := uh HZ; rwa [← uh HN, List.take_length] at h⟩⟩
set_option maxHeartbeats 1000000 in
theorem contains_any (v : Value) (g : Nat) (zs : List Int) (z : Int) (w : World) (hA : ZArg w v g zs) :
  Calls Tryz.prog 132 #[v, .int .i64 z] w fun e w' => e = .returned (.bool (decide (z ∈ zs))) ∧ w' = w := by
 obtain ⟨ao, c, hv, _⟩ := hA.ex
 have HA := hide hA
 subst hv
 clear hA
 go_enter Tryz.func132, Tryz.ntmps132
 go_wp2_with fail
 refine (index_any _ g zs z w (uh HA)).mono ?_
 rintro e w' ⟨r, rfl, rfl, h⟩
 rcases h with ⟨hr, hz⟩ | ⟨hr, hz⟩
 ·subst hr
  have hd : decide (z ∈ zs) = false := by simpa using hz
  have HD := hide hd
  clear hd hz
  go_wp2
  go_ret
  rw [uh HD]
  exact ⟨rfl, rfl⟩
 have hd : decide (z ∈ zs) = true := by simpa using hz
 have HD := hide hd
 clear hd hz
 go_wp2
 go_ret
 rw [uh HD]
 exact ⟨rfl, rfl⟩
def VRow (w : World) (ao : Option Addr) (G : Nat) (A : Nat → Option Addr) (Ln C : Nat → Nat) (N : Nat) : Prop :=
 N = 0 ∨ ∃ o, ao = some ⟨G, o, none⟩ ∧ ∀ j, j < N → w.cell? ⟨G, o + j, none⟩ = some (.slice (A j) (Ln j) (C j))
theorem VRow.below {w w' : World} (h : Below w.heap.size w w') {ao : Option Addr} {G N : Nat} {A : Nat → Option Addr} {Ln C : Nat → Nat} (hr : VRow w ao G A Ln C N) : VRow w' ao G A Ln C N := by
 rcases hr with h0 | ⟨o, rfl, hc⟩
 ·exact .inl h0
 exact .inr ⟨o, rfl, fun j hj => (h.cell (block_lt_of_cell (hc j hj))).trans (hc j hj)⟩
theorem VRow.kq {S : List Nat} {n : Nat} {w w' : World} (h : Kq S n w w') {ao : Option Addr} {G N : Nat} {A : Nat → Option Addr} {Ln C : Nat → Nat} (hr : VRow w ao G A Ln C N) (hg : 0 < N → G < n ∧ G ∉ S) : VRow w' ao G A Ln C N := by
 rcases hr with h0 | ⟨o, rfl, hc⟩
 ·exact .inl h0
 by_cases hs : 0 < N
 ·exact .inr ⟨o, rfl, fun j hj => (World.cell?_of_block (h.block G (hg hs).1 (hg hs).2)).trans (hc j hj)⟩
 exact .inl (by omega)
theorem VRow.at {w : World} {ao : Option Addr} {G N : Nat} {A : Nat → Option Addr} {Ln C : Nat → Nat} (hr : VRow w ao G A Ln C N) (hN : 0 < N) : ∃ o, ao = some ⟨G, o, none⟩ ∧ ∀ j, j < N → w.cell? ⟨G, o + j, none⟩ = some (.slice (A j) (Ln j) (C j)) := by
 rcases hr with h | h
 ·omega
 exact h
theorem VRow.lt {w : World} {ao : Option Addr} {G N : Nat} {A : Nat → Option Addr} {Ln C : Nat → Nat} (hr : VRow w ao G A Ln C N) (hN : 0 < N) : G < w.heap.size := by
 obtain ⟨o, _, hc⟩ := hr.at hN
 exact block_lt_of_cell (hc 0 hN)
structure RArg (w : World) (v : Value) (G : Nat) (A : Nat → Option Addr) (C : Nat → Nat) (l : List (List Nat)) : Prop where
 ex : ∃ ao c, v = .slice ao l.length c ∧ l.length ≤ c ∧ c ≤ maxLen ∧ (ao = none → c = 0) ∧ VRow w ao G A (fun i => (l.getD i []).length) C l.length
 rows : ∀ i, i < l.length → ∃ g, Arg w (.slice (A i) (l.getD i []).length (C i)) g (l.getD i [])
theorem RArg.below {w w' : World} {v : Value} {G : Nat} {A : Nat → Option Addr} {C : Nat → Nat} {l : List (List Nat)} (h : RArg w v G A C l) (k : Below w.heap.size w w') : RArg w' v G A C l := by
 obtain ⟨⟨ao, c, h1, h2, h3, h4, h5⟩, hb⟩ := h
 exact ⟨⟨ao, c, h1, h2, h3, h4, h5.below k⟩, fun i hi => by obtain ⟨g, hg⟩ := hb i hi; exact ⟨g, hg.below k⟩⟩
theorem RArg.bs {w : World} {v : Value} {G : Nat} {A : Nat → Option Addr} {C : Nat → Nat} {l : List (List Nat)} (h : RArg w v G A C l) (i : Nat) : Bs (l.getD i []) := by
 by_cases hi : i < l.length
 ·obtain ⟨g, hg⟩ := h.rows i hi
  exact hg.bs
 rw [List.getD_eq_getElem?_getD, List.getElem?_eq_none (by omega)]
 exact Bs.nil
set_option maxHeartbeats 1000000 in
theorem all_any5 (v : Value) (w : World) (hv : ∃ ao n c, v = .slice ao n c) : Calls Tryz.prog 55 #[v] w fun e w' =>
  e = .returned (.func (.func 94) #[] #[.pointer (some ⟨w.heap.size, 0, none⟩)]) ∧ w'.cell? ⟨w.heap.size, 0, none⟩ = some v ∧ w.heap.size < w'.heap.size ∧ Below w.heap.size w w' := by
 obtain ⟨ao, n, c, rfl⟩ := hv
 go_enter Tryz.func55, Tryz.ntmps55
 go_wp2
 go_ret
 exact ⟨rfl, (cell_new' w _ _).1, by simp, (Below.refl _ w).alloc (Nat.le_refl _) _⟩
abbrev It5 (N : Nat) (K : Nat → Bool) := { i : Nat // i < N ∧ K i = true }
structure Seq5 (gf : Nat) (lb : Array Value) (N : Nat) (A : Nat → Option Addr) (Ln C : Nat → Nat) (K : Nat → Bool) (w : World) : Prop where
 enters : ∀ args W, (callFunc gf args).run Tryz.prog W = .ok (.enter gf args) W
 seq : ∀ (W : World) (S : List Nat) (n₀ : Nat), Below w.heap.size w W → (∀ s ∈ S, w.heap.size ≤ s) → w.heap.size ≤ n₀ →
  SeqStopsK Fence.wide 2 Tryz.prog gf lb (fun x : It5 N K => #[Value.int .i64 x.val, Value.slice (A x.val) (Ln x.val) (C x.val)]) (Kq S n₀) (fun ys => ys.map Subtype.val = (List.range N).filter K) (fun _ => True) N W
theorem Seq5.below {gf : Nat} {lb : Array Value} {N : Nat} {A : Nat → Option Addr} {Ln C : Nat → Nat} {K : Nat → Bool} {w w' : World} (h : Seq5 gf lb N A Ln C K w) (k : Below w.heap.size w w') : Seq5 gf lb N A Ln C K w' :=
 ⟨h.enters, fun W S n₀ h1 h2 h3 => h.seq W S n₀ (k.trans (h1.mono k.size)) (fun s hs => Nat.le_trans k.size (h2 s hs)) (Nat.le_trans k.size h3)⟩
set_option maxRecDepth 100000 in
set_option maxHeartbeats 4000000 in
theorem all_in5 (S : List Nat) (n l B n₀ : Nat) (ao : Option Addr) (G N c : Nat) (A : Nat → Option Addr) (Ln C : Nat → Nat) (hNc : N ≤ 281474976710656) (J Jx : List (It5 N (fun _ => true)) → World → Prop)
  (hY : ∀ pre (x : It5 N (fun _ => true)) W, J pre W → pre.length < N → YieldAt Fence.wide (n - 1) Tryz.prog l #[.int .i64 x.val, .slice (A x.val) (Ln x.val) (C x.val)] W fun e W' =>
   (e = .returned (.bool true) ∧ J (pre ++ [x]) W' ∧ Kq S n₀ W W') ∨ (e = .returned (.bool false) ∧ Jx (pre ++ [x]) W'))
  (W : World) (hcap : W.cell? ⟨B, 0, none⟩ = some (.slice ao N c)) (hrow : VRow W ao G A Ln C N) (hg : 0 < N → G < n₀ ∧ G ∉ S) (h0 : J [] W) :
  CallsIn Fence.wide n Tryz.prog 94 #[.func (.yield l) #[] #[], .pointer (some ⟨B, 0, none⟩)] W fun e W' => (∃ v, e = .returned v) ∧
   ((∃ ys, ys.map Subtype.val = List.range N ∧ J ys W') ∨ (∃ pre, True ∧ Jx pre W')) := by
 have HR := hide hrow
 clear hrow
 refine callsIn_of_wp Tryz.func94 rfl trivial ?_ rfl
 simp only [Tryz.ntmps94, List.size_toArray, List.length_cons, List.length_nil, Nat.reduceAdd, Nat.reduceSub, Array.replicate_succ, Array.replicate_zero, List.push_toArray, List.append_toArray, List.nil_append, List.cons_append]
 gi_wp2
 gi_loopw [7] (fun q wr => ∃ (pre : List (It5 N (fun _ => true))) (i : Nat), q = .int .i64 i ∧ i ≤ N ∧ pre.map Subtype.val = List.range i ∧ J pre wr ∧ VRow wr ao G A Ln C N) (fun q _ => N - (intOf q).toNat)
 case atStart => exact ⟨[], 0, rfl, by omega, rfl, h0, uh HR⟩
 case round =>
  obtain ⟨pre, i, rfl, hi, hp, hJ1, hr1⟩ := hrel
  have hl : pre.length = i := by have := congrArg List.length hp; simpa using this
  have HP := hide hp
  have HR1 := hide hr1
  have HL := hide hl
  clear hp hr1 hl
  by_cases hlt : i < N
  ·have hi1 : (i : Int) < (N : Int) := by omega
   obtain ⟨o, rfl, hcl⟩ := (uh HR1).at (by omega)
   have hc := hcl i hlt
   clear hcl
   obtain ⟨fn, tmps, assign, body, hy1, hR⟩ := hY pre ⟨i, hlt, rfl⟩ wr hJ1 (by rw [uh HL]; exact hlt)
   dsimp only at hy1
   have HP' : Hid ((pre ++ [(⟨i, hlt, rfl⟩ : It5 N (fun _ => true))]).map Subtype.val = List.range (i + 1)) := by show _ = _; rw [List.map_append, uh HP, List.range_succ]; rfl
   gi_wp2
   refine ⟨fun h => absurd h (by simp [Fence.wide]), hR.mono ?_⟩
   rintro e W3 (⟨rfl, hJ3, hk3⟩ | ⟨rfl, hJx3⟩)
   ·have HR3 := hide ((uh HR1).kq hk3 hg)
    gi_wp2
    go_roundw
    case rel => exact ⟨pre ++ [(⟨i, hlt, rfl⟩ : It5 N (fun _ => true))], i + 1, by go_num, by omega, uh HP', hJ3, uh HR3⟩
    case measure => simp [intOf]; omega
   gi_wp2
   refine bodyPost_ret (results_none rfl _ _ _) rfl ?_
   exact ⟨⟨_, rfl⟩, .inr ⟨pre ++ [⟨i, hlt, rfl⟩], trivial, hJx3⟩⟩
  have hi2 : i = N := by omega
  subst hi2
  gi_wp2
  go_end0
  exact ⟨⟨_, rfl⟩, .inl ⟨pre, uh HP, hJ1⟩⟩
theorem all_seq {w : World} {B G N c : Nat} {ao : Option Addr} {A : Nat → Option Addr} {Ln C : Nat → Nat} (hNc : N ≤ 281474976710656) (hcap : w.cell? ⟨B, 0, none⟩ = some (.slice ao N c)) (hrow : VRow w ao G A Ln C N) :
  Seq5 94 #[.pointer (some ⟨B, 0, none⟩)] N A Ln C (fun _ => true) w := by
 refine ⟨enters_of Tryz.func94 (by kernel_rfl) rfl, fun W S n₀ hW hS hn l J Jx W2 hW2 _ _ hY h0 => ?_⟩
 have hb : Below w.heap.size w W2 := hW.trans (hW2.mono hW.size)
 refine (all_in5 S 2 l B n₀ ao G N c A Ln C hNc J Jx hY W2 ((hb.cell (p := ⟨B, 0, none⟩) (block_lt_of_cell hcap)).trans hcap) (hrow.below hb) (fun h => ⟨Nat.lt_of_lt_of_le (hrow.lt h) hn, fun hm => absurd (hS G hm) (by have := hrow.lt h; omega)⟩) h0).mono ?_
 rintro e W' ⟨he, h⟩
 refine ⟨he, h.imp (fun ⟨ys, h1, h2⟩ => ⟨ys, by show _ = _; rw [h1]; exact (List.filter_eq_self.2 (fun _ _ => rfl)).symm, h2⟩) (fun ⟨pre, _, h⟩ => ⟨pre, trivial, h⟩)⟩
set_option maxHeartbeats 1000000 in
theorem kept_any (v u : Value) (w : World) (hv : ∃ ao n c, v = .slice ao n c) (hu : ∃ ao n c, u = .slice ao n c) : Calls Tryz.prog 98 #[v, u] w fun e w' =>
  e = .returned (.func (.func 133) #[] #[.pointer (some ⟨w.heap.size, 0, none⟩), .pointer (some ⟨w.heap.size + 1, 0, none⟩)]) ∧ w'.cell? ⟨w.heap.size, 0, none⟩ = some v ∧ w'.cell? ⟨w.heap.size + 1, 0, none⟩ = some u ∧ w.heap.size + 1 < w'.heap.size ∧ Below w.heap.size w w' := by
 obtain ⟨ao, n, c, rfl⟩ := hv
 obtain ⟨bo, m, d, rfl⟩ := hu
 go_enter Tryz.func98, Tryz.ntmps98
 go_wp2
 go_ret
 refine ⟨by simp, ?_, ?_, by simp, ((Below.refl _ w).alloc (Nat.le_refl _) _).alloc (by simp) _⟩
 ·exact (World.cell?_of_block (Below.heap_alloc _ _ _ (by simp))).trans (cell_new' w _ _).1
 have := (cell_new' (w.alloc (.cells #[.slice ao n c] 25)) (.slice bo m d) 34).1
 rw [World.size_alloc] at this
 exact this
def keep (zs : List Int) (i : Nat) : Bool := !decide ((i : Int) ∈ zs)
set_option maxRecDepth 100000 in
set_option maxHeartbeats 4000000 in
theorem kept_in (S : List Nat) (n l B B2 n₀ : Nat) (ao : Option Addr) (G N c : Nat) (A : Nat → Option Addr) (Ln C : Nat → Nat) (u : Value) (gz : Nat) (zs : List Int) (hNc : N ≤ 281474976710656) (J Jx : List (It5 N (keep zs)) → World → Prop)
  (hY : ∀ pre (x : It5 N (keep zs)) W, J pre W → pre.length < N → YieldAt Fence.wide (n - 1) Tryz.prog l #[.int .i64 x.val, .slice (A x.val) (Ln x.val) (C x.val)] W fun e W' =>
   (e = .returned (.bool true) ∧ J (pre ++ [x]) W' ∧ Kq S n₀ W W') ∨ (e = .returned (.bool false) ∧ Jx (pre ++ [x]) W'))
  (W : World) (hcap : W.cell? ⟨B, 0, none⟩ = some (.slice ao N c)) (hcap2 : W.cell? ⟨B2, 0, none⟩ = some u) (hz : ZArg W u gz zs) (hrow : VRow W ao G A Ln C N) (hg : 0 < N → G < n₀ ∧ G ∉ S) (hg2 : zs ≠ [] → gz < n₀ ∧ gz ∉ S) (hB2 : B2 < n₀ ∧ B2 ∉ S) (h0 : J [] W) :
  CallsIn Fence.wide n Tryz.prog 133 #[.func (.yield l) #[] #[], .pointer (some ⟨B, 0, none⟩), .pointer (some ⟨B2, 0, none⟩)] W fun e W' => (∃ v, e = .returned v) ∧
   ((∃ ys, ys.map Subtype.val = (List.range N).filter (keep zs) ∧ J ys W') ∨ (∃ pre, True ∧ Jx pre W')) := by
 have HR := hide hrow
 have HZ := hide hz
 have HC2 := hide hcap2
 obtain ⟨bo, d, hu, _⟩ := hz.ex
 subst hu
 clear hrow hz hcap2
 refine callsIn_of_wp Tryz.func133 rfl trivial ?_ rfl
 simp only [Tryz.ntmps133, List.size_toArray, List.length_cons, List.length_nil, Nat.reduceAdd, Nat.reduceSub, Array.replicate_succ, Array.replicate_zero, List.push_toArray, List.append_toArray, List.nil_append, List.cons_append]
 gi_wp2
 clear hcap
 gi_loopw [8] (fun q wr => ∃ (pre : List (It5 N (keep zs))) (i : Nat), q = .int .i64 i ∧ i ≤ N ∧ pre.map Subtype.val = (List.range i).filter (keep zs) ∧ J pre wr ∧ VRow wr ao G A Ln C N ∧ ZArg wr (.slice bo zs.length d) gz zs ∧ wr.cell? ⟨B2, 0, none⟩ = some (.slice bo zs.length d)) (fun q _ => N - (intOf q).toNat)
 case atStart => exact ⟨[], 0, rfl, by omega, rfl, h0, uh HR, uh HZ, uh HC2⟩
 case round =>
  obtain ⟨pre, i, rfl, hi, hp, hJ1, hr1, hz1, hc2⟩ := hrel
  have hl : pre.length ≤ i := by have := congrArg List.length hp; simp only [List.length_map] at this; rw [this]; exact Nat.le_trans (List.length_filter_le _ _) (by simp)
  have HP := hide hp
  have HR1 := hide hr1
  have HL := hide hl
  have HZ1 := hide hz1
  clear hp hr1 hl hz1
  by_cases hlt : i < N
  ·have hi1 : (i : Int) < (N : Int) := by omega
   obtain ⟨o, rfl, hcl⟩ := (uh HR1).at (by omega)
   have hc := hcl i hlt
   clear hcl
   have HC2w := hide hc2
   gi_wp2
   refine ⟨trivial, fun h => absurd h (by simp [Fence.wide]), (callsIn_wide.2 (contains_any _ gz zs (i : Int) wr (uh HZ1))).mono ?_⟩
   rintro e w' ⟨rfl, rfl⟩
   by_cases hin : (i : Int) ∈ zs
   ·have hd : decide ((i : Int) ∈ zs) = true := by simpa using hin
    have HP' : Hid (pre.map Subtype.val = (List.range (i + 1)).filter (keep zs)) := by show _ = _; rw [uh HP, List.range_succ, List.filter_append]; simp [keep, hd]
    rw [hd]
    clear hd hin
    gi_wp2
    refine ⟨fun _ h => (by cases h), ?_⟩
    gi_wp2
    go_roundw
    case rel => exact ⟨pre, i + 1, by go_num, by omega, uh HP', hJ1, uh HR1, uh HZ1, uh HC2w⟩
    case measure => simp [intOf]; omega
   have hd : decide ((i : Int) ∈ zs) = false := by simpa using hin
   have HKi : Hid (keep zs i = true) := by show _ = _; simp [keep, hd]
   have HP' : Hid ((pre ++ [(⟨i, hlt, uh HKi⟩ : It5 N (keep zs))]).map Subtype.val = (List.range (i + 1)).filter (keep zs)) := by show _ = _; rw [List.map_append, uh HP, List.range_succ, List.filter_append]; simp [keep, hd]
   rw [hd]
   clear hd hin
   obtain ⟨fn, tmps, assign, body, hy1, hR⟩ := hY pre ⟨i, hlt, uh HKi⟩ w' hJ1 (by have := uh HL; omega)
   dsimp only at hy1
   gi_wp2
   refine ⟨fun h => absurd h (by simp [Fence.wide]), hR.mono ?_⟩
   rintro e W3 (⟨rfl, hJ3, hk3⟩ | ⟨rfl, hJx3⟩)
   ·have HR3 := hide ((uh HR1).kq hk3 hg)
    have HZ3 := hide ((uh HZ1).kq hk3 hg2)
    have HC3 := hide (hk3.cell (uh HC2w) hB2.1 hB2.2)
    gi_wp2
    go_roundw
    case rel => exact ⟨pre ++ [(⟨i, hlt, uh HKi⟩ : It5 N (keep zs))], i + 1, by go_num, by omega, uh HP', hJ3, uh HR3, uh HZ3, uh HC3⟩
    case measure => simp [intOf]; omega
   gi_wp2
   refine bodyPost_ret (results_none rfl _ _ _) rfl ?_
   exact ⟨⟨_, rfl⟩, .inr ⟨pre ++ [⟨i, hlt, uh HKi⟩], trivial, hJx3⟩⟩
  have hi2 : i = N := by omega
  subst hi2
  gi_wp2
  go_end0
  exact ⟨⟨_, rfl⟩, .inl ⟨pre, uh HP, hJ1⟩⟩
theorem kept_seq {w : World} {B B2 G N c gz : Nat} {ao : Option Addr} {A : Nat → Option Addr} {Ln C : Nat → Nat} {u : Value} {zs : List Int} (hNc : N ≤ 281474976710656) (hcap : w.cell? ⟨B, 0, none⟩ = some (.slice ao N c)) (hcap2 : w.cell? ⟨B2, 0, none⟩ = some u)
  (hz : ZArg w u gz zs) (hrow : VRow w ao G A Ln C N) : Seq5 133 #[.pointer (some ⟨B, 0, none⟩), .pointer (some ⟨B2, 0, none⟩)] N A Ln C (keep zs) w := by
 refine ⟨enters_of Tryz.func133 (by kernel_rfl) rfl, fun W S n₀ hW hS hn l J Jx W2 hW2 _ _ hY h0 => ?_⟩
 have hb : Below w.heap.size w W2 := hW.trans (hW2.mono hW.size)
 exact kept_in S 2 l B B2 n₀ ao G N c A Ln C u gz zs hNc J Jx hY W2 ((hb.cell (p := ⟨B, 0, none⟩) (block_lt_of_cell hcap)).trans hcap) ((hb.cell (p := ⟨B2, 0, none⟩) (block_lt_of_cell hcap2)).trans hcap2) (hz.below hb) (hrow.below hb)
  (fun h => ⟨Nat.lt_of_lt_of_le (hrow.lt h) hn, fun hm => absurd (hS G hm) (by have := hrow.lt h; omega)⟩) (fun h => ⟨Nat.lt_of_lt_of_le (hz.lt h) hn, fun hm => absurd (hS gz hm) (by have := hz.lt h; omega)⟩)
  ⟨Nat.lt_of_lt_of_le (block_lt_of_cell hcap2) hn, fun hm => absurd (hS B2 hm) (by have := block_lt_of_cell hcap2; simp at this; omega)⟩ h0
end Go.Proofs.YtjdikhelabibnaaGreat

namespace Go.Proofs.YtjdikhelabibnaaGreat
open Go.RowKit Go.Shelf
attribute [local go_sem] Oper.semAt_some
theorem four_boxes (w : World) (a b c d : Value) (t1 t2 t3 t4 : TypeId) : ∃ W, (((w.alloc (.cells #[a] t1)).alloc (.cells #[b] t2)).alloc (.cells #[c] t3)).alloc (.cells #[d] t4) = W ∧ W.heap.size = w.heap.size + 4 ∧ Below w.heap.size w W ∧
  (W.cell? ⟨w.heap.size, 0, none⟩ = some a ∧ W.frozen? ⟨w.heap.size, 0, none⟩ = false) ∧ (W.cell? ⟨w.heap.size + 1, 0, none⟩ = some b ∧ W.frozen? ⟨w.heap.size + 1, 0, none⟩ = false) ∧
  (W.cell? ⟨w.heap.size + 1 + 1, 0, none⟩ = some c ∧ W.frozen? ⟨w.heap.size + 1 + 1, 0, none⟩ = false) ∧ (W.cell? ⟨w.heap.size + 1 + 1 + 1, 0, none⟩ = some d ∧ W.frozen? ⟨w.heap.size + 1 + 1 + 1, 0, none⟩ = false) := by
 refine ⟨_, rfl, by simp, ((((Below.refl _ w).alloc (Nat.le_refl _) _).alloc (by simp) _).alloc (by simp only [World.size_alloc]; omega) _).alloc (by simp only [World.size_alloc]; omega) _, ?_, ?_, ?_, ?_⟩
 ·exact box_below (box_below (box_below (cell_new' w a t1) ((Below.refl _ _).alloc (Nat.le_refl _) _) (by simp)) ((Below.refl _ _).alloc (Nat.le_refl _) _) (by simp only [World.size_alloc]; omega)) ((Below.refl _ _).alloc (Nat.le_refl _) _) (by simp only [World.size_alloc]; omega)
 ·have := cell_new' (w.alloc (.cells #[a] t1)) b t2
  rw [World.size_alloc] at this
  exact box_below (box_below this ((Below.refl _ _).alloc (Nat.le_refl _) _) (by simp)) ((Below.refl _ _).alloc (Nat.le_refl _) _) (by simp only [World.size_alloc]; omega)
 ·have := cell_new' ((w.alloc (.cells #[a] t1)).alloc (.cells #[b] t2)) c t3
  rw [World.size_alloc, World.size_alloc] at this
  exact box_below this ((Below.refl _ _).alloc (Nat.le_refl _) _) (by simp)
 have := cell_new' (((w.alloc (.cells #[a] t1)).alloc (.cells #[b] t2)).alloc (.cells #[c] t3)) d t4
 rw [World.size_alloc, World.size_alloc, World.size_alloc] at this
 exact this
structure Box (W : World) (b : Nat) (v : Value) : Prop where
 c : W.cell? ⟨b, 0, none⟩ = some v
 f : W.frozen? ⟨b, 0, none⟩ = false
theorem Box.of {W : World} {b : Nat} {v : Value} (h : W.cell? ⟨b, 0, none⟩ = some v ∧ W.frozen? ⟨b, 0, none⟩ = false) : Box W b v := ⟨h.1, h.2⟩
theorem Box.lt {W : World} {b : Nat} {v : Value} (h : Box W b v) : b < W.heap.size := block_lt_of_cell h.c
theorem Box.kept {W W' : World} {b : Nat} {v : Value} {row : Option Nat} (h : Box W b v) (hg : W.grownBy W' row) (hr : ∀ r, row = some r → ∃ o : Obj, W.heap[r]? = some o ∧ o.isCells = false) : Box W' b v :=
 ⟨cell_kept h.c hg hr, (frozen_kept h.c hg hr).trans h.f⟩
theorem Box.same {W W' : World} {b : Nat} {v : Value} (h : Box W b v) (e : W'.heap[b]? = W.heap[b]?) : Box W' b v :=
 ⟨(World.cell?_of_block e).trans h.c, (World.frozen?_of_block (a := ⟨b, 0, none⟩) e).trans h.f⟩
theorem Box.kp {S : List Nat} {W W' : World} {b : Nat} {v : Value} (h : Box W b v) (k : Kp S W W') (hn : b ∉ S) : Box W' b v := h.same (k.block b h.lt hn)
theorem Box.set {W : World} {b : Nat} {v : Value} (h : Box W b v) (u : Value) : Box (W.setCell ⟨b, 0, none⟩ u) b u :=
 ⟨World.cell?_setCell_same' _ _ _ (by rw [h.c]; rfl), by rw [World.frozen?_setCell]; exact h.f⟩
theorem Box.other {W : World} {b : Nat} {v : Value} (h : Box W b v) {p : Addr} (u : Value) (hp : p.block ≠ b) : Box (W.setCell p u) b v :=
 h.same (Below.heap_setCell _ _ _ _ (fun e => hp e.symm))
theorem Box.put {W : World} {b : Nat} {v : Value} (h : Box W b v) {D : Nat} {o : Obj} (o' : Obj) (hD : W.heap[D]? = some o) (ho : o.isCells = false) : Box (W.putObj D o') b v :=
 h.kept (grownBy_putObj' _ D _) (fun r e => by cases e; exact ⟨_, hD, ho⟩)
def lastLn {N : Nat} {K : Nat → Bool} (Ln : Nat → Nat) (pre : List (It5 N K)) : Nat := match pre.getLast? with
 | none => 0
 | some x => Ln x.val
theorem lastLn_snoc {N : Nat} {K : Nat → Bool} (Ln : Nat → Nat) (pre : List (It5 N K)) (x : It5 N K) : lastLn Ln (pre ++ [x]) = Ln x.val := by simp [lastLn]
theorem lastLn_of {N : Nat} {K : Nat → Bool} {Ln : Nat → Nat} {pre : List (It5 N K)} (h : pre ≠ []) : ∃ x ∈ pre, lastLn Ln pre = Ln x.val := by
 refine ⟨pre.getLast h, List.getLast_mem h, ?_⟩
 simp [lastLn, List.getLast?_eq_some_getLast h]
set_option maxRecDepth 100000 in
set_option maxHeartbeats 4000000 in
theorem sizeOf_any (gf : Nat) (lb : Array Value) (N : Nat) (A : Nat → Option Addr) (Ln C : Nat → Nat) (K : Nat → Bool) (w : World) (hs : Seq5 gf lb N A Ln C K w) (hLn : ∀ i, Ln i ≤ 9223372036854775807) :
    Calls Tryz.prog 92 #[.func (.func gf) #[] lb] w fun e w' => Below w.heap.size w w' ∧
      ((∃ n : Nat, e = .returned (.tuple #[.int .i64 n, .bool true]) ∧ (∀ i, i < N → K i = true → Ln i = n) ∧ ((∃ i, i < N ∧ K i = true) → ∃ i, i < N ∧ K i = true ∧ Ln i = n)) ∨
       (e = .returned (.tuple #[.int .i64 0, .bool false]) ∧ ∃ i j, i < N ∧ j < N ∧ K i = true ∧ K j = true ∧ Ln i ≠ Ln j)) := by
  have HS := hide hs
  clear hs
  refine (callsIn_wide (n := 3)).1 ?_
  refine callsIn_of_wp_marks Tryz.func92 rfl trivial ?_ rfl
  simp only [Tryz.ntmps92, List.size_toArray, List.length_cons, List.length_nil, Nat.reduceAdd, Nat.reduceSub, Array.replicate_succ, Array.replicate_zero, List.push_toArray, List.append_toArray, List.nil_append, List.cons_append]
  gi_wp2
  obtain ⟨W0, hW0, hz0, hB0, c2, c3, c4, c5⟩ := four_boxes w (.int .i64 0) (.bool false) (.int .i64 0) (.bool false) 3 4 3 4
  rw [hW0]
  clear hW0
  have HLN := hide hLn
  clear hLn
  refine wpIn_rangeFunc_ownF rfl (by omega) (gf := gf) (lb := lb) rfl trivial (uh HS).enters
    ((uh HS).seq W0 [w.heap.size + 1 + 1, w.heap.size + 1 + 1 + 1] W0.heap.size hB0 (by simp; omega) (by omega))
    (fun h k => h.trans k) (kq_b (Nat.le_refl _)) (Below.refl _ _) (fun _ => rfl)
    (fun pre W => (Box W w.heap.size (.int .i64 0) ∧ Box W (w.heap.size + 1) (.bool false) ∧ Box W (w.heap.size + 1 + 1) (.int .i64 (lastLn Ln pre : Nat)) ∧ Box W (w.heap.size + 1 + 1 + 1) (.bool (!pre.isEmpty)) ∧ ∀ x ∈ pre, Ln x.val = lastLn Ln pre) ∧ Below w.heap.size w W)
    (fun c pre W => (c = .ret ∧ Box W w.heap.size (.int .i64 0) ∧ Box W (w.heap.size + 1) (.bool false) ∧ ∃ x y : It5 N K, x ∈ pre ∧ y ∈ pre ∧ Ln x.val ≠ Ln y.val) ∧ Below w.heap.size w W)
    (OwnFrom.and (Own.from (fun s A B row hs hg hr => ⟨hs.1.kept hg hr, hs.2.1.kept hg hr, hs.2.2.1.kept hg hr, hs.2.2.2.1.kept hg hr, hs.2.2.2.2⟩) _) (ownFrom_below (Nat.le_refl _) hB0.size))
    (fun c => OwnFrom.and (Own.from (fun s A B row hs hg hr => ⟨hs.1, hs.2.1.kept hg hr, hs.2.2.1.kept hg hr, hs.2.2.2⟩) _) (ownFrom_below (Nat.le_refl _) hB0.size))
    ⟨⟨.of c2, .of c3, .of c4, .of c5, by simp⟩, hB0⟩
    (fun x => { tmps := #[.func (.func gf) #[] lb, undef, .pointer (some ⟨w.heap.size, 0, none⟩), .pointer (some ⟨w.heap.size + 1, 0, none⟩), .pointer (some ⟨w.heap.size + 1 + 1, 0, none⟩), .pointer (some ⟨w.heap.size + 1 + 1 + 1, 0, none⟩), undef, .slice (A x.val) (Ln x.val) (C x.val), .func (.func gf) #[] lb, .int .i64 x.val, .slice (A x.val) (Ln x.val) (C x.val), undef, undef, undef, undef, undef, undef, undef, undef, undef, undef], defers := [] }) ?assign ?body ?done ?stop
  case assign =>
    intro l x W K hK
    gi_wp2
    exact hK
  case body =>
    rintro l pre x W ⟨⟨b2, b3, b4, b5, hall⟩, hB⟩ _
    have HALL := hide hall
    have HB := hide hB
    have HX := hide (uh HLN x.val)
    clear hall hB
    obtain ⟨m, hm⟩ : ∃ m, Ln x.val = m := ⟨_, rfl⟩
    have HM := hide hm
    rw [hm] at HX ⊢
    clear hm
    have H2 := hide b2
    have H3 := hide b3
    have H4 := hide b4
    have H5 := hide b5
    have go1 : ∀ (hh : ∀ y ∈ pre, Ln y.val = m), KeepsOthers W ((W.setCell ⟨w.heap.size + 1 + 1, 0, none⟩ (.int .i64 (m : Int))).setCell ⟨w.heap.size + 1 + 1 + 1, 0, none⟩ (.bool true)) ∧ Kq [w.heap.size + 1 + 1, w.heap.size + 1 + 1 + 1] W0.heap.size W ((W.setCell ⟨w.heap.size + 1 + 1, 0, none⟩ (.int .i64 (m : Int))).setCell ⟨w.heap.size + 1 + 1 + 1, 0, none⟩ (.bool true)) ∧
        (Box ((W.setCell ⟨w.heap.size + 1 + 1, 0, none⟩ (.int .i64 (m : Int))).setCell ⟨w.heap.size + 1 + 1 + 1, 0, none⟩ (.bool true)) w.heap.size (.int .i64 0) ∧ Box ((W.setCell ⟨w.heap.size + 1 + 1, 0, none⟩ (.int .i64 (m : Int))).setCell ⟨w.heap.size + 1 + 1 + 1, 0, none⟩ (.bool true)) (w.heap.size + 1) (.bool false) ∧
          Box ((W.setCell ⟨w.heap.size + 1 + 1, 0, none⟩ (.int .i64 (m : Int))).setCell ⟨w.heap.size + 1 + 1 + 1, 0, none⟩ (.bool true)) (w.heap.size + 1 + 1) (.int .i64 (lastLn Ln (pre ++ [x]) : Nat)) ∧ Box ((W.setCell ⟨w.heap.size + 1 + 1, 0, none⟩ (.int .i64 (m : Int))).setCell ⟨w.heap.size + 1 + 1 + 1, 0, none⟩ (.bool true)) (w.heap.size + 1 + 1 + 1) (.bool (!(pre ++ [x]).isEmpty)) ∧ ∀ y ∈ pre ++ [x], Ln y.val = lastLn Ln (pre ++ [x])) ∧ Below w.heap.size w ((W.setCell ⟨w.heap.size + 1 + 1, 0, none⟩ (.int .i64 (m : Int))).setCell ⟨w.heap.size + 1 + 1 + 1, 0, none⟩ (.bool true)) := fun hh => by
      refine ⟨(KeepsOthers.setCell _ _ _).trans (KeepsOthers.setCell _ _ _), ((Kq.refl _ _ W).setCell _ _ (by simp)).setCell _ _ (by simp), ⟨?_, ?_, ?_, ?_, ?_⟩, ((uh HB).setCell (p := ⟨w.heap.size + 1 + 1, 0, none⟩) (by simp; omega) _).setCell (p := ⟨w.heap.size + 1 + 1 + 1, 0, none⟩) (by simp; omega) _⟩
      · exact ((uh H2).other _ (by simp; omega)).other _ (by simp; omega)
      · exact ((uh H3).other _ (by simp)).other _ (by simp; omega)
      · rw [lastLn_snoc, uh HM]; exact ((uh H4).set _).other _ (by simp)
      · rw [show (!(pre ++ [x]).isEmpty) = true from by simp]; exact ((uh H5).other _ (by simp)).set _
      intro y hy
      rw [lastLn_snoc, uh HM]
      rcases List.mem_append.1 hy with h | h
      · exact hh y h
      rw [List.mem_singleton.1 h]; exact uh HM
    have GO1 := hide go1
    clear go1
    have c4 := b4.c
    have f4 := b4.f
    have c5 := b5.c
    have f5 := b5.f
    have f5' : (W.setCell ⟨w.heap.size + 1 + 1, 0, none⟩ (.int .i64 (m : Int))).frozen? ⟨w.heap.size + 1 + 1 + 1, 0, none⟩ = false := by rw [World.frozen?_setCell]; exact f5
    have c5' := (b5.other (p := ⟨w.heap.size + 1 + 1, 0, none⟩) (.int .i64 (m : Int)) (by simp)).c
    clear b2 b3 b4 b5
    by_cases he : pre = []
    · have e5 : (!pre.isEmpty) = false := by rw [he]; rfl
      rw [e5] at c5 c5'
      have HE := hide he
      clear he e5
      gi_wp2
      exact uh GO1 (fun y hy => by rw [uh HE] at hy; simp at hy)
    have e5 : (!pre.isEmpty) = true := by cases pre with
      | nil => exact absurd rfl he
      | cons _ _ => rfl
    rw [e5] at c5 c5'
    have HE := hide he
    clear he e5
    obtain ⟨q, hq⟩ : ∃ q, lastLn Ln pre = q := ⟨_, rfl⟩
    have HQ := hide hq
    rw [hq] at c4
    clear hq
    by_cases hmq : m = q
    · have e1 : ((m : Int) != (q : Int)) = false := by rw [hmq]; simp
      have HMQ := hide hmq
      clear hmq
      gi_wp2
      exact uh GO1 (fun y hy => by rw [uh HALL y hy, uh HQ, uh HMQ])
    have e1 : ((m : Int) != (q : Int)) = true := by rw [bne_iff_ne]; omega
    have HMQ := hide hmq
    clear hmq
    have c2 := (uh H2).c
    have f2 := (uh H2).f
    have c3 := ((uh H3).other (p := ⟨w.heap.size, 0, none⟩) (.int .i64 0) (by simp)).c
    have f3 := ((uh H3).other (p := ⟨w.heap.size, 0, none⟩) (.int .i64 0) (by simp)).f
    gi_wp2
    refine ⟨(KeepsOthers.setCell _ _ _).trans (KeepsOthers.setCell _ _ _), ⟨rfl, ((uh H2).set _).other _ (by simp), ((uh H3).other _ (by simp)).set _, ?_⟩, ((uh HB).setCell (p := ⟨w.heap.size, 0, none⟩) (by simp) _).setCell (p := ⟨w.heap.size + 1, 0, none⟩) (by simp) _⟩
    obtain ⟨y, hy, hyl⟩ := lastLn_of (Ln := Ln) (uh HE)
    exact ⟨x, y, by simp, by simp [hy], by rw [← hyl, uh HM, uh HQ]; exact uh HMQ⟩
  case done =>
    rintro D ys W hD hys ⟨⟨b2, b3, b4, _, hall⟩, hB⟩ hK
    have c4 := b4.c
    have c2 := b2.c
    have f2 := b2.f
    have b3' := b3.other (p := ⟨w.heap.size, 0, none⟩) (.int .i64 (lastLn Ln ys : Nat)) (by simp)
    have c3 := b3'.c
    have f3 := b3'.f
    have HALL := hide hall
    clear hall
    gi_wp2
    have hK' := ((KeepsOthers.setCell W ⟨w.heap.size, 0, none⟩ (.int .i64 (lastLn Ln ys : Nat))).trans (KeepsOthers.setCell _ ⟨w.heap.size + 1, 0, none⟩ (.bool true))).same D _ hK rfl
    refine ⟨by simp, .inl ⟨_, _, rfl, run_takeDeferred hK', ?_⟩⟩
    have d2 := (((b2.set (.int .i64 (lastLn Ln ys : Nat))).other (p := ⟨w.heap.size + 1, 0, none⟩) (.bool true) (by simp)).put (.deferred none) hK' rfl).c
    have d3 := ((b3'.set (.bool true)).put (.deferred none) hK' rfl).c
    refine ⟨.tuple #[.int .i64 (lastLn Ln ys : Nat), .bool true], ?_, ((hB.setCell (p := ⟨w.heap.size, 0, none⟩) (by simp) _).setCell (p := ⟨w.heap.size + 1, 0, none⟩) (by simp) _).trans (belowK_b (w := w) (Nat.le_refl _) _ D _ _ (by omega) hK' rfl rfl), .inl ⟨_, rfl, ?_, ?_⟩⟩
    · simp [results, Tryz.f92, go_sem, d2, d3]
    · intro i hi hk
      have hm : i ∈ ys.map Subtype.val := by rw [hys]; exact List.mem_filter.2 ⟨List.mem_range.2 hi, hk⟩
      obtain ⟨x, hx, rfl⟩ := List.mem_map.1 hm
      exact uh HALL x hx
    rintro ⟨i, hi, hk⟩
    have hm : i ∈ ys.map Subtype.val := by rw [hys]; exact List.mem_filter.2 ⟨List.mem_range.2 hi, hk⟩
    obtain ⟨x, hx, rfl⟩ := List.mem_map.1 hm
    exact ⟨x.val, hi, hk, uh HALL x hx⟩
  case stop =>
    rintro D c pre W hD _ ⟨⟨rfl, b2, b3, x, y, _, _, hne⟩, hB⟩ hK
    gi_wp2
    refine ⟨by simp, .inl ⟨_, _, rfl, run_takeDeferred hK, ?_⟩⟩
    have d2 := (b2.put (.deferred none) hK rfl).c
    have d3 := (b3.put (.deferred none) hK rfl).c
    refine ⟨.tuple #[.int .i64 0, .bool false], ?_, hB.trans (belowK_b (w := w) (Nat.le_refl _) W D _ _ (by omega) hK rfl rfl), .inr ⟨rfl, x.val, y.val, x.2.1, y.2.1, x.2.2, y.2.2, hne⟩⟩
    simp [results, Tryz.f92, go_sem, d2, d3]
def sv (d : Nat) (vp vq : Value) : Value := .agg #[.int .i64 (d : Int), vp, vq]
set_option maxHeartbeats 1000000 in
theorem second_any (d : Nat) (hd : d ≤ 14) (po qo : Option Addr) (np cp nq cq : Nat) (w : World) :
  Calls Tryz.prog 137 #[sv d (.slice po np cp) (.slice qo nq cq)] w fun e w' => e = .returned (.int .i64 ((d + 1 : Nat) : Int)) ∧ Below w.heap.size w w' := by
 unfold sv
 go_enter Tryz.func137, Tryz.ntmps137
 go_wp2
 go_ret
 exact ⟨rfl, (Below.refl _ w).alloc (Nat.le_refl _) _⟩
set_option maxRecDepth 100000 in
set_option maxHeartbeats 2000000 in
theorem shares_any (d : Nat) (hd : d ≤ 14) (po qo : Option Addr) (np cp nq cq : Nat) (i : Nat) (hi : i ≤ 16) (w : World) :
  Calls Tryz.prog 130 #[sv d (.slice po np cp) (.slice qo nq cq), .int .i64 (i : Int)] w fun e w' => e = .returned (.tuple #[.int .u8 (shP d i : Nat), .int .u8 (shQ d i : Nat)]) ∧ Below w.heap.size w w' := by
 by_cases h1 : i = d
 ·have e1 : ((i : Int) == (d : Int)) = true := by rw [h1]; simp
  have HP : Hid (shP d i = 1 ∧ shQ d i = 0) := by show _ ∧ _; subst h1; unfold shP shQ; simp
  clear h1
  unfold sv
  go_enter Tryz.func130, Tryz.ntmps130
  go_wp2
  go_returns
  rw [(uh HP).1, (uh HP).2]
  exact ⟨rfl, (Below.refl _ w).alloc (Nat.le_refl _) _⟩
 have e1 : ((i : Int) == (d : Int)) = false := by rw [beq_eq_false_iff_ne]; omega
 by_cases h2 : i = d + 1
 ·have e2 : ((i : Int) == ((d + 1 : Nat) : Int)) = true := by rw [h2]; simp
  have HP : Hid (shP d i = 0 ∧ shQ d i = 1) := by show _ ∧ _; subst h2; unfold shP shQ; simp
  clear h1 h2
  unfold sv
  go_enter Tryz.func130, Tryz.ntmps130
  go_wp2_with fail
  refine (second_any d hd po qo np cp nq cq _).mono ?_
  rintro e w2 ⟨rfl, hk⟩
  have HK := hide hk
  clear hk
  go_wp2
  go_returns
  rw [(uh HP).1, (uh HP).2]
  exact ⟨rfl, ((Below.refl _ w).alloc (Nat.le_refl _) _).trans ((uh HK).mono (by simp))⟩
 have e2 : ((i : Int) == ((d + 1 : Nat) : Int)) = false := by rw [beq_eq_false_iff_ne]; omega
 have HP : Hid (shP d i = 1 ∧ shQ d i = X (i : Int)) := by show _ ∧ _; unfold shP shQ; rw [if_neg h2, if_neg h1, if_neg h2, X_nat]; simp
 clear h1 h2
 unfold sv
 go_enter Tryz.func130, Tryz.ntmps130
 go_wp2_with fail
 refine (second_any d hd po qo np cp nq cq _).mono ?_
 rintro e w2 ⟨rfl, hk⟩
 have HK := hide (((Below.refl _ w).alloc (Nat.le_refl _) _).trans (hk.mono (by simp)))
 clear hk
 go_wp2_with fail
 refine (exp_any _ _).mono ?_
 rintro e w3 ⟨rfl, hk⟩
 have HK3 := hide ((uh HK).trans (hk.mono (uh HK).size))
 clear hk
 go_wp2
 go_returns
 rw [(uh HP).1, (uh HP).2]
 exact ⟨rfl, uh HK3⟩
end Go.Proofs.YtjdikhelabibnaaGreat
