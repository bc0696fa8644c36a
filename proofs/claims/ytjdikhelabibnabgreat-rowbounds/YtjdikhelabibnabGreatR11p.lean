/-
  Rows by themselves: their payloads, what they tell.
-/
import Derived.Test.YtjdikhelabibnabGreatR11f
import Derived.Test.YtjdikhelabibnabGreatF5
import Derived.Test.YtjdikhelabibnabGreatE10p
import Derived.Test.YtjdikhelabibnabGreatE10k
namespace Go.Proofs.YtjdikhelabibnabGreat
open Go Go.RowKit Go.Shelf

/-- A payload. -/
def nbE (a b c i : Int) (e : EV) : List Nat := nats (byT a b c i e.k e.l e.s e.d)
theorem nbE_ints {a b c i : Int} {e : EV} (he : e.Ok) : ints (nbE a b c i e) = byT a b c i e.k e.l e.s e.d := ints_nats (byW_byt (mem_lt10 he.bs) (by simp))
theorem nbE_len {a b c i : Int} {e : EV} (he : e.Ok) : (nbE a b c i e).length = 48 := by
  rw [nbE, nats, List.length_map]; exact byW_len he.len rfl
theorem nbE_bs {a b c i : Int} {e : EV} (he : e.Ok) : Bs (nbE a b c i e) := by
  have h : Byt (byT a b c i e.k e.l e.s e.d) := byW_byt (mem_lt10 he.bs) (by simp)
  intro j
  rw [← cf_getD, nbE, nats, List.getD_eq_getElem?_getD, List.getElem?_map]
  cases hq : (byT a b c i e.k e.l e.s e.d)[j]? with
  | none => simp
  | some z =>
    have := h z (List.mem_of_getElem? hq)
    simp
    omega
/-- The first payloads. -/
def dataL (d : Nat) (a b c : Int) (l : List EV) : List (List Nat) := (List.range d).map (fun (i : Nat) => nbE a b c (i : Int) (l.getD i zEV))
theorem dataL_len (d : Nat) (a b c : Int) (l : List EV) : (dataL d a b c l).length = d := by simp [dataL]
theorem dataL_get {d : Nat} {a b c : Int} {l : List EV} {i : Nat} (hi : i < d) : (dataL d a b c l).getD i [] = nbE a b c (i : Int) (l.getD i zEV) := by
  rw [dataL, List.getD_eq_getElem?_getD, List.getElem?_map, List.getElem?_range hi]; rfl
theorem dataL_sz {d : Nat} {a b c : Int} {l : List EV} (hok : ∀ i, (l.getD i zEV).Ok) {i : Nat} (hi : i < d) : ((dataL d a b c l).getD i []).length = 48 := by rw [dataL_get hi, nbE_len (hok i)]
theorem dataL_bs {d : Nat} {a b c : Int} {l : List EV} (hok : ∀ i, (l.getD i zEV).Ok) (i : Nat) : Bs ((dataL d a b c l).getD i []) := by
  by_cases hi : i < d
  · rw [dataL_get hi]; exact nbE_bs (hok i)
  · rw [List.getD_eq_getElem?_getD, List.getElem?_eq_none (by rw [dataL_len]; omega)]; exact Bs.nil
theorem dataL_of {d : Nat} {a b c : Int} {l : List EV} {xs : List (Fin d)} (h : xs.map Fin.val = List.range d) : xs.map (fun x => nbE a b c (x.val : Nat) (l.getD x.val zEV)) = dataL d a b c l := by
  rw [dataL, ← h, List.map_map]; rfl
theorem dataL_snoc (d : Nat) (a b c : Int) (l : List EV) : dataL (d + 1) a b c l = dataL d a b c l ++ [nbE a b c (d : Int) (l.getD d zEV)] := by
  rw [dataL, List.range_succ, List.map_append]; rfl
/-- A row's payloads. -/
def encL (d : Nat) (a b c : Int) (l : List EV) : List (List Nat) := withP (dataL d a b c l)
theorem encL_len (d : Nat) (a b c : Int) (l : List EV) : (encL d a b c l).length = d + 2 := by rw [encL, withP_len, dataL_len]
theorem encL_get {d : Nat} {a b c : Int} {l : List EV} {i : Nat} (hi : i < d) : (encL d a b c l).getD i [] = nbE a b c (i : Int) (l.getD i zEV) := by rw [encL, withP_get (by rw [dataL_len]; exact hi), dataL_get hi]
theorem encL_facts {d : Nat} {a b c : Int} {l : List EV} (hok : ∀ i, (l.getD i zEV).Ok) (h2 : 2 ≤ d) (h14 : d ≤ 14) : (∀ i, i < d + 2 → ((encL d a b c l).getD i []).length = 48) ∧ (∀ i, Bs ((encL d a b c l).getD i [])) ∧
    (∀ k, k < 48 → sm (shP d) (encL d a b c l) (List.range (d + 2)) k = 0) ∧ (∀ k, k < 48 → sm (shQ d) (encL d a b c l) (List.range (d + 2)) k = 0) :=
  withP_facts (dataL_len d a b c l) h2 h14 (fun _ hi => dataL_sz hok hi) (dataL_bs hok)
theorem encL_chk {d : Nat} {a b c : Int} {l : List EV} (hok : ∀ i, (l.getD i zEV).Ok) (h2 : 2 ≤ d) (h14 : d ≤ 14) : chk (encL d a b c l) = true := by
  obtain ⟨f1, f2, f3, f4⟩ := encL_facts (a := a) (b := b) (c := c) hok h2 h14
  exact chk_of (by rw [encL_len]; omega) (by rw [encL_len]; omega) (fun j hj => f1 j (by rw [← encL_len d a b c l]; exact hj)) (by rw [encL_len]; exact f3) (by rw [encL_len]; exact f4)

/-- A row that may be. -/
def okRow (n a b c : Int) (l : List EV) : Prop := (6 ≤ n ∧ n ≤ 8) ∧ okH a b c ∧ (l.length : Int) ≤ n - 2 ∧ okL l
/-- What Encode answers. -/
structure EncR (w w' : World) (x : Ending) (n a b c : Int) (l : List EV) : Prop where
  below : Below w.heap.size w w'
  res : (okRow n a b c l ∧ ∃ v ps, x = .returned (.tuple #[v, .int .i64 0]) ∧ OwnR w.heap.size w' v ps (encL (n - 2).toNat a b c l)) ∨ (¬ okRow n a b c l ∧ x = .returned (.tuple #[.slice none 0 0, .int .i64 1]))

/-- The one that is so. -/
noncomputable def pickL (P : List (List Nat) → Prop) : List (List Nat) := open Classical in if h : ∃ x, P x then Classical.choose h else []
theorem pickL_spec {P : List (List Nat) → Prop} (h : ∃ x, P x) : P (pickL P) := by
  rw [pickL, dif_pos h]; exact Classical.choose_spec h
/-- What the payloads tell, by Fix (it is told once: fix_once). -/
noncomputable def fixL (l : List (List Nat)) (zs : List Int) : List (List Nat) := pickL (fun out => ∃ n, IsFix l zs out n)
theorem fixL_of {l out : List (List Nat)} {zs : List Int} {n : Nat} (h4 : 4 ≤ l.length) (h16 : l.length ≤ 16) (hpk : pk zs l.length = true) (hz : zs.length ≤ 2) (h : IsFix l zs out n) : fixL l zs = out := by
  obtain ⟨n', h'⟩ : ∃ n, IsFix l zs (fixL l zs) n := pickL_spec (P := fun out => ∃ n, IsFix l zs out n) ⟨out, n, h⟩
  have hn := IsFix.size_eq h h' hz h4
  subst hn
  exact fix_once h4 h16 hpk h' h
/-- Fix asks for what is there alone. -/
theorem IsFix.other {l l' out : List (List Nat)} {zs : List Int} {n : Nat} (h : IsFix l zs out n) (hl : l'.length = l.length) (hk : ∀ i, i < l.length → keep zs i = true → l'.getD i [] = l.getD i []) : IsFix l' zs out n :=
  ⟨by rw [hl]; exact h.len, fun i hi hki => by rw [hl] at hi; rw [hk i hi hki]; exact h.szl i hi hki, fun i hi => h.sz i (by rw [← hl]; exact hi), fun i hi hki => by rw [hl] at hi; rw [hk i hi hki]; exact h.same i hi hki, h.bs, by rw [hl]; exact h.p, by rw [hl]; exact h.q⟩
theorem fixL_other {l l' : List (List Nat)} {zs : List Int} (hl : l'.length = l.length) (hk : ∀ i, i < l.length → keep zs i = true → l'.getD i [] = l.getD i []) : fixL l' zs = fixL l zs := by
  have h : (fun out => ∃ n, IsFix l' zs out n) = (fun out => ∃ n, IsFix l zs out n) := by
    funext out
    refine propext ⟨fun ⟨n, h⟩ => ⟨n, h.other hl.symm (fun i hi hki => (hk i (by rw [← hl]; exact hi) hki).symm)⟩, fun ⟨n, h⟩ => ⟨n, h.other hl hk⟩⟩
  unfold fixL
  rw [h]

/-- A row that is read. -/
structure RowV where
  se : Int
  at' : Int
  sl : List EV
def zRow : RowV := ⟨0, 0, []⟩
/-- The entry that the bytes tell. -/
noncomputable def parV (zs : List Int) : EV := ⟨parN zs 0, parN zs 1, parN zs 2, parD zs⟩
/-- The payloads tell a row's slots: of the first d. -/
def goodR (super at' : Int) (x : List (List Nat)) (i : Nat) : Prop := parE (ints (x.getD i [])) = 0 ∧ parH (ints (x.getD i [])) 1 = super ∧ parH (ints (x.getD i [])) 2 = at' ∧ parH (ints (x.getD i [])) 3 = (i : Int) ∧ parH (ints (x.getD i [])) 0 = parH (ints (x.getD 0 [])) 0
/-- What is told of payloads that are whole. -/
noncomputable def rowF (super at' : Int) (x : List (List Nat)) : RowV × Int := open Classical in
  if ∀ i, i < x.length - 2 → goodR super at' x i then (⟨parH (ints (x.getD 0 [])) 0, at', (List.range (x.length - 2)).map (fun i => parV (ints (x.getD i [])))⟩, 0) else (zRow, 5)
/-- Which pages are neither blank nor good. -/
def lostG (l : List PV) : List Nat := atL (fun i => !((l.getD i zPV).st == 0) && !((l.getD i zPV).st == 2)) l.length
/-- A page that says that it is good, and is none. -/
def oddP (p : PV) : Bool := (p.st == 2) && !(p.x.length == 48)
/-- What Decode answers. -/
noncomputable def decF (super at' : Int) (l : List PV) (most : Int) : RowV × Int :=
  if ¬ ((6 ≤ l.length ∧ l.length ≤ 8) ∧ 0 ≤ most ∧ most ≤ 2) then (zRow, 1)
  else if l.all (fun p => p.st == 0) then (zRow, 2)
  else if l.any (fun p => p.st == 0) then (zRow, 5)
  else if most < ((lostG l).length : Int) then (zRow, 11)
  else if l.any oddP then (zRow, 5)
  else if chk (fixL (l.map (·.x)) (ints (lostG l))) then rowF super at' (fixL (l.map (·.x)) (ints (lostG l))) else (zRow, 5)
/-- A row in memory. -/
structure RowAt (base : Nat) (w : World) (v : Value) (r : RowV) : Prop where
  ex : ∃ sv g, v = .agg #[.int .i64 r.se, .int .i64 r.at', sv] ∧ EArg w sv g r.sl ∧ (r.sl ≠ [] → base ≤ g)
structure DecW (w w' : World) (x : Ending) (super at' : Int) (l : List PV) (most : Int) : Prop where
  below : Below w.heap.size w w'
  res : ∃ v, x = .returned (.tuple #[v, .int .i64 (decF super at' l most).2]) ∧ RowAt w.heap.size w' v (decF super at' l most).1

end Go.Proofs.YtjdikhelabibnabGreat
