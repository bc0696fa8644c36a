/-
  poly.Trim, poly.Add.
  Roots of polynomials, sums of powers, without the program: what bch leans on.
  Binary polynomials and their roots, the generator of bch, without the program.
  Words as bits, codewords, how far they are apart, without the program.
  Encoding by division, mending by syndromes, without the program.
-/
import Derived.Test.YtkhpoomajebgoabMag
import Derived.Test.YtkhpoomajebgoabMak
import Derived.Laws.OwnMore
import Derived.Test.YtkhpoomajebgoabMab
import Derived.Test.YtkhpoomajebgoabMai
import Derived.Test.YtkhpoomajebgoabMaj
namespace Go.Proofs.Ytkhpoomajebgoab
open Go.RowKit Go.Shelf

section
variable {P : Program} (w : World)
theorem append_types (t u ty e e' : TypeId) (i : TypeInfo) (ht : P.underlying t = some (.slice e)) (hu : P.underlying u = some (.slice e')) (hi : P.info? e = some i) (ao bo : Option Addr) (n c m d : Nat) :
    (Builtin.append_ #[t, u] ty #[.slice ao n c, .slice bo m d]).run P w = (Builtin.append_ #[t, t] ty #[.slice ao n c, .slice bo m d]).run P w := by
  simp [Builtin.append_, run_underlying ht, run_underlying hu, sizeOf, typeInfo, hi]

theorem wpList_append_row2 {ops : Array Oper} {rest : List Oper} {o : Oper} {a : Act} {Q : Exit → Act → World → Prop} (hgd : o.guard = none) (s x : Operand) (t u : TypeId)
    (ho : o.op = .call { callee := .builtin .append, args := #[s, x], argTypes := #[t, u] })
    (base : Nat) (e e' : TypeId) (i : TypeInfo) (ht : P.underlying t = some (.slice e)) (hu : P.underlying u = some (.slice e')) (hi : P.info? e = some i) (hz : i.zero = some (.int .u8 0)) (hsize : i.size = 1) (hby : i.bytes = 1)
    (so : Option Addr) (k n : Nat) (xs : List Value) (hs : a.eval s = .slice so n k) (hown : w.ownsRow base e 1 (.slice so n k) n xs) (ao : Option Addr) (g m c : Nat) (zs : List Int) (hx : a.eval x = .slice ao m c) (hl : zs.length = m) (hrow : Row w ao g zs)
    (hnil : ao = none → m = 0 ∧ c = 0) (hb : n + m ≤ 1000000) (hbase : base ≤ w.heap.size)
    (h : ∀ v' w', w'.ownsRow base e 1 v' (n + m) (xs ++ zs.map (Value.int .u8)) → w.grownBy w' (Value.slice so n k).ownBlock → wpList P ops Q rest (a.put o.dst v') w') : wpList P ops Q (o :: rest) a w := by
  refine wpList_plain hgd fun K hK => ?_
  obtain ⟨v', w', hr, h2, h3, h4⟩ := run_append_row (P := P) w base t o.type e i ht hi hz hsize hby _ n xs hown ao g m c zs hl hrow hnil hb hbase
  rw [← append_types (P := P) w t u o.type e e' i ht hu hi] at hr
  unfold Oper.wp
  simp [execOp, ho, resolve, invoke, builtin, hs, hx, hr, Result.andThen]
  exact hK _ _ (h v' w' h2 h3)
end

end Go.Proofs.Ytkhpoomajebgoab

namespace Go.Proofs.Ytkhpoomajebgoab

/-- The product of x and these. -/
def rtF (p : List Nat) (a : Nat) : List Nat := trim (pmul p [a, 1])
def rtP (l : List Nat) : List Nat := l.foldl rtF [1]

theorem lin_trim (a : Nat) : trim [a, 1] = [a, 1] := trim_self (.inr (by simp))
theorem lin_bs {a : Nat} (h : a < 256) : Bs [a, 1] := Bs.cons h (Bs.cons (by omega) Bs.nil)
theorem lin_ev {a x : Nat} (hx : x < 256) : ev [a, 1] x = x ^^^ a := by
  have : ev [a, 1] x = gmul (gmul 0 x ^^^ 1) x ^^^ a := rfl
  rw [this, zero_gmul hx, Nat.zero_xor, one_gmul hx]

theorem rtP_len {l : List Nat} (h : ∀ x ∈ l, x < 256) : (rtP l).length = l.length + 1 ∧ trim (rtP l) = rtP l ∧ Bs (rtP l) := by
  have key : ∀ (l : List Nat) (p : List Nat), (∀ x ∈ l, x < 256) → trim p = p → Bs p → 0 < p.length → (l.foldl rtF p).length = p.length + l.length ∧ trim (l.foldl rtF p) = l.foldl rtF p ∧ Bs (l.foldl rtF p) := by
    intro l
    induction l with
    | nil => intro p _ h1 h2 _; exact ⟨rfl, h1, h2⟩
    | cons a l ih =>
      intro p hl h1 h2 h3
      have ha : a < 256 := hl a List.mem_cons_self
      have hlen : (rtF p a).length = p.length + 1 := by
        have := trim_pmul_len h2 (lin_bs ha) (m := p.length - 1) (n := 1) (by rw [h1]; omega) (by rw [lin_trim]; rfl)
        unfold rtF
        omega
      obtain ⟨k1, k2, k3⟩ := ih (rtF p a) (fun x hx => hl x (List.mem_cons_of_mem _ hx)) (trim_trim _) (Bs.pmul h2).trim (by omega)
      exact ⟨by rw [List.foldl_cons, k1, hlen, List.length_cons]; omega, k2, k3⟩
  have := key l [1] h rfl (Bs.cons (by omega) Bs.nil) (by simp)
  exact ⟨by rw [rtP, this.1]; simp; omega, this.2.1, this.2.2⟩

theorem rtP_ev {l : List Nat} (h : ∀ x ∈ l, x < 256) {x : Nat} (hx : x < 256) : ev (rtP l) x = 0 ↔ x ∈ l := by
  have key : ∀ (l : List Nat) (p : List Nat), (∀ x ∈ l, x < 256) → Bs p → (ev (l.foldl rtF p) x = 0 ↔ ev p x = 0 ∨ x ∈ l) := by
    intro l
    induction l with
    | nil => intro p _ _; simp
    | cons a l ih =>
      intro p hl hp
      have ha : a < 256 := hl a List.mem_cons_self
      rw [List.foldl_cons, ih (rtF p a) (fun y hy => hl y (List.mem_cons_of_mem _ hy)) (Bs.pmul hp).trim, rtF, ev_congr hx (cf_trim _), ev_pmul hp (lin_bs ha) hx, lin_ev hx, List.mem_cons]
      constructor
      · rintro (h | h)
        · by_cases h1 : ev p x = 0
          · exact .inl h1
          · by_cases h2 : x ^^^ a = 0
            · exact .inr (.inl (xor_eq_nought h2))
            · exact absurd h (gmul_ne (ev_lt hp) (xor_lt hx ha) h1 h2)
        · exact .inr (.inr h)
      · rintro (h | h | h)
        · left; rw [h, zero_gmul (xor_lt hx ha)]
        · left; rw [h, Nat.xor_self, gmul_zero]
        · exact .inr h
  have := key l [1] h (Bs.cons (by omega) Bs.nil)
  have e1 : ev [1] x = 1 := by
    have : ev [1] x = gmul 0 x ^^^ 1 := rfl
    rw [this, zero_gmul hx, Nat.zero_xor]
  rw [rtP, this, e1]
  simp

/-- x to the e-th, by steps. -/
def gp (x : Nat) : Nat → Nat
  | 0 => 1
  | e + 1 => gmul (gp x e) x
theorem gp_lt (x e : Nat) : gp x e < 256 := by
  induction e with
  | zero => simp [gp]
  | succ e ih => exact gmul_lt ih
theorem gp_E (k e : Nat) : gp (E k) e = E (k * e) := by
  induction e with
  | zero => rfl
  | succ e ih => rw [gp, ih, gmul_E, Nat.mul_succ]

/-- The sum of f over a row. -/
def xsum (f : Nat → Nat) (xs : List Nat) : Nat := xs.foldr (fun x s => f x ^^^ s) 0
@[simp] theorem xsum_nil (f : Nat → Nat) : xsum f [] = 0 := rfl
@[simp] theorem xsum_cons (f : Nat → Nat) (x : Nat) (xs : List Nat) : xsum f (x :: xs) = f x ^^^ xsum f xs := rfl
theorem xsum_lt {f : Nat → Nat} {xs : List Nat} (h : ∀ x ∈ xs, f x < 256) : xsum f xs < 256 := by
  induction xs with
  | nil => simp
  | cons x xs ih => exact xor_lt (h x List.mem_cons_self) (ih (fun y hy => h y (List.mem_cons_of_mem _ hy)))
theorem xsum_xor (f g : Nat → Nat) (xs : List Nat) : xsum (fun x => f x ^^^ g x) xs = xsum f xs ^^^ xsum g xs := by
  induction xs with
  | nil => simp
  | cons x xs ih => rw [xsum_cons, xsum_cons, xsum_cons, ih, xor_four]
theorem xsum_mul (c : Nat) (f : Nat → Nat) (xs : List Nat) : xsum (fun x => gmul c (f x)) xs = gmul c (xsum f xs) := by
  induction xs with
  | nil => exact (gmul_zero c).symm
  | cons x xs ih => rw [xsum_cons, xsum_cons, ih, gmul_xor]
theorem xsum_congr {f g : Nat → Nat} {xs : List Nat} (h : ∀ x ∈ xs, f x = g x) : xsum f xs = xsum g xs := by
  induction xs with
  | nil => rfl
  | cons x xs ih => rw [xsum_cons, xsum_cons, h x List.mem_cons_self, ih (fun y hy => h y (List.mem_cons_of_mem _ hy))]
theorem xsum_nought {f : Nat → Nat} {xs : List Nat} (h : ∀ x ∈ xs, f x = 0) : xsum f xs = 0 := by
  induction xs with
  | nil => rfl
  | cons x xs ih => rw [xsum_cons, h x List.mem_cons_self, ih (fun y hy => h y (List.mem_cons_of_mem _ hy))]; rfl
theorem xsum_append (f : Nat → Nat) (xs ys : List Nat) : xsum f (xs ++ ys) = xsum f xs ^^^ xsum f ys := by
  induction xs with
  | nil => simp
  | cons x xs ih => rw [List.cons_append, xsum_cons, xsum_cons, ih, Nat.xor_assoc]
theorem xsum_perm {f : Nat → Nat} {xs ys : List Nat} (h : xs.Perm ys) : xsum f xs = xsum f ys := by
  induction h with
  | nil => rfl
  | cons x _ ih => rw [xsum_cons, xsum_cons, ih]
  | swap x y l => rw [xsum_cons, xsum_cons, xsum_cons, xsum_cons, xor_swap]
  | trans _ _ h1 h2 => exact h1.trans h2

/-- Where the sums of powers are noughts, the values' sums are. -/
theorem values_nought {xs p : List Nat} (hx : ∀ x ∈ xs, x < 256) (hp : Bs p) (e : Nat) (h : ∀ i, i < p.length → xsum (fun x => gp x (e + i)) xs = 0) : xsum (fun x => gmul (gp x e) (ev p x)) xs = 0 := by
  induction p generalizing e with
  | nil => exact xsum_nought (fun x _ => gmul_zero _)
  | cons c p ih =>
    have e1 : xsum (fun x => gmul (gp x e) (ev (c :: p) x)) xs = xsum (fun x => gmul (gp x (e + 1)) (ev p x) ^^^ gmul c (gp x e)) xs := by
      refine xsum_congr (fun x hm => ?_)
      have h1 := hx x hm
      have h2 := gp_lt x e
      have h3 := ev_lt (x := x) hp.tail
      rw [ev, gmul_xor, gp, gmul_assoc h2 h1 h3, gmul_comm h3 h1, gmul_comm h2 hp.head]
    rw [e1, xsum_xor, xsum_mul, ih hp.tail (e + 1) (fun i hi => by rw [Nat.add_right_comm]; exact h (i + 1) (by simpa using hi))]
    have := h 0 (by simp)
    rw [Nat.add_zero] at this
    rw [this, gmul_zero]
    rfl

/-- Up to m unlike numbers, none of them nought, of which the first m sums of powers are noughts: there are none. -/
theorem vander {xs : List Nat} (hx : ∀ x ∈ xs, x < 256 ∧ x ≠ 0) (hn : xs.Nodup) {m : Nat} (hm : xs.length ≤ m) (h : ∀ i, 1 ≤ i → i ≤ m → xsum (fun x => gp x i) xs = 0) : xs = [] := by
  cases xs with
  | nil => rfl
  | cons x xs =>
    exfalso
    have ht : ∀ y ∈ xs, y < 256 := fun y hy => (hx y (List.mem_cons_of_mem _ hy)).1
    obtain ⟨hl, _, hb⟩ := rtP_len ht
    have h1 := (hx x List.mem_cons_self)
    have key := values_nought (xs := x :: xs) (p := rtP xs) (fun y hy => (hx y hy).1) hb 1 (fun i hi => h (1 + i) (by omega) (by rw [hl] at hi; simp only [List.length_cons] at hm; omega))
    rw [xsum_cons, xsum_nought (fun y hy => by rw [(rtP_ev ht (ht y hy)).2 hy, gmul_zero]), Nat.xor_zero] at key
    have hne : ev (rtP xs) x ≠ 0 := fun h0 => (List.nodup_cons.1 hn).1 ((rtP_ev ht h1.1).1 h0)
    have hg : gp x 1 = x := by
      show gmul 1 x = x
      exact one_gmul h1.1
    rw [hg] at key
    exact gmul_ne h1.1 (ev_lt hb) h1.2 hne key

theorem nodup_map {f : Nat → Nat} {l : List Nat} (hf : ∀ a ∈ l, ∀ b ∈ l, f a = f b → a = b) (h : l.Nodup) : (l.map f).Nodup := by
  induction l with
  | nil => simp
  | cons x l ih =>
    obtain ⟨h1, h2⟩ := List.nodup_cons.1 h
    rw [List.map_cons, List.nodup_cons]
    refine ⟨fun hm => ?_, ih (fun a ha b hb => hf a (List.mem_cons_of_mem _ ha) b (List.mem_cons_of_mem _ hb)) h2⟩
    obtain ⟨y, hy, e⟩ := List.mem_map.1 hm
    have := hf y (List.mem_cons_of_mem _ hy) x List.mem_cons_self e
    subst this
    exact h1 hy

/-- The powers of 2 at unlike places are unlike. -/
theorem E_inj {a b : Nat} (ha : a < 255) (hb : b < 255) (h : E a = E b) : a = b := by rw [← L_E ha, ← L_E hb, h]

/-- Up to eight unlike places of which the eight syndromes are noughts: there are none. -/
theorem eight {at' : List Nat} (hp : ∀ k ∈ at', k < 255) (hn : at'.Nodup) (hl : at'.length ≤ 8) (h : ∀ i, 1 ≤ i → i ≤ 8 → xsum (fun k => E (k * i)) at' = 0) : at' = [] := by
  have hmap : ∀ (f : Nat → Nat) (l : List Nat), xsum f (l.map E) = xsum (fun k => f (E k)) l := by
    intro f l
    induction l with
    | nil => rfl
    | cons x l ih => rw [List.map_cons, xsum_cons, xsum_cons, ih]
  have := vander (xs := at'.map E) (fun x hx => by
    obtain ⟨k, _, rfl⟩ := List.mem_map.1 hx
    exact ⟨E_lt k, by have := E_ne k; omega⟩) (nodup_map (fun a ha b hb e => E_inj (hp a ha) (hp b hb) e) hn) (m := 8) (by rw [List.length_map]; exact hl)
    (fun i h1 h2 => by
      rw [hmap, ← h i h1 h2]
      exact xsum_congr (fun k _ => gp_E k i))
  exact List.map_eq_nil_iff.1 this

end Go.Proofs.Ytkhpoomajebgoab

namespace Go.Proofs.Ytkhpoomajebgoab

/-- A root parts a factor off. -/
theorem root_part {p : List Nat} {a : Nat} (hp : Bs p) (ha : a < 256) (h : ev p a = 0) (hne : trim p ≠ []) : ∃ q, Bs q ∧ q.length + 1 ≤ p.length ∧ Eqv (pmul q [a, 1]) p := by
  have h0 := div_made (t := 1) hp (lin_bs ha) (by rw [lin_trim]; rfl) rfl
  generalize ((downN ((trim p).length - 1)).foldl (divF (trim [a, 1]) 1 (pw (cf (trim [a, 1]) 1) (-1))) (List.replicate ((trim p).length - 1) 0, trim p)) = qr at h0
  obtain ⟨q, r⟩ := qr
  dsimp only at h0
  generalize trim r = r at h0
  have h1 := h0.lt
  rw [lin_trim] at h1
  have e : ev p a = ev r a := by
    rw [← ev_congr ha h0.eq, ev_padd (Bs.pmul h0.bq) h0.br ha, ev_pmul h0.bq (lin_bs ha) ha, lin_ev ha, Nat.xor_self, gmul_zero, Nat.zero_xor]
  have hr : r = [] := by
    match r, h1 with
    | [], _ => rfl
    | [v], _ =>
      have hv : ev [v] a = v := by
        have : ev [v] a = gmul 0 a ^^^ v := rfl
        rw [this, zero_gmul ha, Nat.zero_xor]
      rw [h, hv] at e
      have := h0.tr
      rw [← e] at this
      simp [trim] at this
    | _ :: _ :: _, h => simp at h; omega
  subst hr
  have he : Eqv (pmul q [a, 1]) p := fun i => by
    have := h0.eq i
    rwa [cf_padd, cf_nil, Nat.xor_zero] at this
  refine ⟨q, h0.bq, ?_, he⟩
  have hq : q ≠ [] := by
    intro hq
    subst hq
    exact hne (trim_nought (fun i => (he i).symm))
  have hl := List.length_pos_iff.2 hq
  have := trim_pmul_len h0.bq (lin_bs ha) (m := q.length - 1) (n := 1) (by rw [h0.tq]; omega) (by rw [lin_trim]; rfl)
  rw [trim_congr he] at this
  have := trim_len p
  omega

/-- No more roots than its degree, but of nought. -/
theorem roots_few {xs p : List Nat} (hp : Bs p) (hx : ∀ x ∈ xs, x < 256) (hn : xs.Nodup) (hr : ∀ x ∈ xs, ev p x = 0) (hl : p.length ≤ xs.length) (i : Nat) : cf p i = 0 := by
  induction xs generalizing p i with
  | nil =>
    have : p = [] := List.eq_nil_of_length_eq_zero (by simpa using hl)
    rw [this]; rfl
  | cons a xs ih =>
    by_cases h0 : trim p = []
    · rw [← cf_trim, h0]; rfl
    · obtain ⟨q, hq, hql, he⟩ := root_part hp (hx a List.mem_cons_self) (hr a List.mem_cons_self) h0
      obtain ⟨hn1, hn2⟩ := List.nodup_cons.1 hn
      have ha := hx a List.mem_cons_self
      have z := ih hq (fun x hm => hx x (List.mem_cons_of_mem _ hm)) hn2 (fun x hm => by
        have hx1 := hx x (List.mem_cons_of_mem _ hm)
        have h1 := hr x (List.mem_cons_of_mem _ hm)
        rw [← ev_congr hx1 he, ev_pmul hq (lin_bs ha) hx1, lin_ev hx1] at h1
        by_cases hz : ev q x = 0
        · exact hz
        · refine absurd h1 (gmul_ne (ev_lt hq) (xor_lt hx1 ha) hz (fun h2 => ?_))
          have := xor_eq_nought h2
          subst this
          exact hn1 hm) (by simp only [List.length_cons] at hl; omega)
      rw [← he i, pmul_comm hq (lin_bs ha) i, pmul_right [a, 1] (q' := []) (fun j => z j) i, pmul_nil]

/-- Of noughts and ones. -/
def Bin (p : List Nat) : Prop := ∀ i, cf p i ≤ 1
theorem Bin.bs {p : List Nat} (h : Bin p) : Bs p := fun i => by have := h i; omega
theorem Bin.tail {x : Nat} {p : List Nat} (h : Bin (x :: p)) : Bin p := fun i => h (i + 1)

theorem sq_sum {a b : Nat} (ha : a < 256) (hb : b < 256) : gmul (a ^^^ b) (a ^^^ b) = gmul a a ^^^ gmul b b := by
  have h := sum_sq ha hb
  rwa [pw_sq (xor_lt ha hb), pw_sq ha, pw_sq hb] at h

theorem ev_sq {p : List Nat} (hp : Bin p) {x : Nat} (hx : x < 256) : ev p (gmul x x) = gmul (ev p x) (ev p x) := by
  induction p with
  | nil => exact (gmul_zero 0).symm
  | cons c p ih =>
    have hP := ev_lt (x := x) hp.tail.bs
    have hc : c ≤ 1 := hp 0
    have hcc : gmul c c = c := by
      have : c = 0 ∨ c = 1 := by omega
      rcases this with rfl | rfl
      · exact gmul_zero 0
      · exact one_gmul (by omega)
    rw [ev, ev, ih hp.tail, sq_sum (gmul_lt hP) (by omega), hcc]
    congr 1
    rw [gmul_assoc hP hP (gmul_lt hx), gmul_assoc hP hx (gmul_lt hP), ← gmul_assoc hP hx hx, gmul_comm (gmul_lt hP) hx]

theorem ev_two {p : List Nat} (hp : Bin p) (k : Nat) (h : ev p (E k) = 0) : ev p (E (2 * k)) = 0 := by
  have := ev_sq hp (E_lt k)
  rw [gmul_E, h, gmul_zero] at this
  rw [Nat.two_mul]
  exact this

theorem ev_mod (p : List Nat) (k : Nat) : ev p (E (k % 255)) = ev p (E k) := by rw [E_mod]

/-- All that are doubled from 1, 3, 5, 7. -/
def gRoots : List Nat := orb 1 ++ orb 3 ++ orb 5 ++ orb 7
theorem gRoots_facts : gRoots.length = 32 ∧ gRoots.Nodup ∧ (∀ k ∈ gRoots, k < 255) := by decide +kernel
theorem gRoots_eq : gRoots = [1, 2, 4, 8, 16, 32, 64, 128, 3, 6, 12, 24, 48, 96, 192, 129, 5, 10, 20, 40, 80, 160, 65, 130, 7, 14, 28, 56, 112, 224, 193, 131] := by decide +kernel

/-- The roots 1, 3, 5, 7 bring all 32. -/
theorem roots_all {p : List Nat} (hp : Bin p) (h1 : ev p (E 1) = 0) (h3 : ev p (E 3) = 0) (h5 : ev p (E 5) = 0) (h7 : ev p (E 7) = 0) : ∀ k ∈ gRoots, ev p (E k) = 0 := by
  have st : ∀ k, ev p (E k) = 0 → ev p (E (2 * k % 255)) = 0 := fun k hk => by rw [ev_mod]; exact ev_two hp k hk
  have run : ∀ n k, ev p (E k) = 0 → ∀ m ∈ orbF n k k, ev p (E m) = 0 := by
    intro n k hk
    have go : ∀ n m, ev p (E m) = 0 → ∀ j ∈ orbF n k m, ev p (E j) = 0 := by
      intro n
      induction n with
      | zero => intro m _ j hj; simp [orbF] at hj
      | succ n ih =>
        intro m hm j hj
        rw [orbF, List.mem_cons] at hj
        rcases hj with rfl | hj
        · exact hm
        · split at hj
          · simp at hj
          · exact ih _ (st m hm) j hj
    exact go n k hk
  intro k hk
  simp only [gRoots, List.mem_append] at hk
  rcases hk with ((hk | hk) | hk) | hk
  · exact run 8 1 h1 k hk
  · exact run 8 3 h3 k hk
  · exact run 8 5 h5 k hk
  · exact run 8 7 h7 k hk

/-- Up to 32 bits of which the syndromes are noughts are noughts. -/
theorem short_nought {p : List Nat} (hp : Bin p) (hl : p.length ≤ 32) (h1 : ev p (E 1) = 0) (h3 : ev p (E 3) = 0) (h5 : ev p (E 5) = 0) (h7 : ev p (E 7) = 0) (i : Nat) : cf p i = 0 := by
  obtain ⟨g1, g2, g3⟩ := gRoots_facts
  refine roots_few (xs := gRoots.map E) hp.bs (fun x hx => ?_) (nodup_map (fun a ha b hb e => E_inj (g3 a ha) (g3 b hb) e) g2) (fun x hx => ?_) (by rw [List.length_map, g1]; exact hl) i
  · obtain ⟨k, _, rfl⟩ := List.mem_map.1 hx
    exact E_lt k
  · obtain ⟨k, hk, rfl⟩ := List.mem_map.1 hx
    exact roots_all hp h1 h3 h5 h7 k hk

/-- The generator. -/
def genP : List Nat := [1, 3, 5, 7].foldl (fun g n => trim (pmul g (minP n))) [1]
theorem genP_facts : genP.length = 33 ∧ genP.all (fun x => decide (x ≤ 1)) = true ∧ cf genP 0 = 1 ∧ cf genP 32 = 1 := by decide +kernel
theorem genP_bin : Bin genP := fun i => by
  by_cases hi : i < genP.length
  · exact of_decide_eq_true (List.all_eq_true.1 genP_facts.2.1 _ (List.mem_of_getElem? (cf_get hi)))
  · rw [cf_ge (by omega)]; omega
theorem genP_roots : ∀ k ∈ gRoots, ev genP (E k) = 0 := roots_all genP_bin (by decide +kernel) (by decide +kernel) (by decide +kernel) (by decide +kernel)

/-- The places of the ones. -/
def ones : Nat → List Nat → List Nat
  | _, [] => []
  | k, c :: p => (if c = 0 then [] else [k]) ++ ones (k + 1) p

theorem ev_ones {p : List Nat} (hp : Bin p) (k e : Nat) : gmul (E (k * e)) (ev p (E e)) = xsum (fun j => E (j * e)) (ones k p) := by
  induction p generalizing k with
  | nil => exact gmul_zero _
  | cons c p ih =>
    have hc : c ≤ 1 := hp 0
    have h1 := ev_lt (x := E e) hp.tail.bs
    rw [ev, gmul_xor, ones, xsum_append, ← ih hp.tail (k + 1), Nat.succ_mul, ← gmul_E, gmul_assoc (E_lt _) (E_lt _) h1, gmul_comm h1 (E_lt e), Nat.xor_comm]
    congr 1
    have : c = 0 ∨ c = 1 := by omega
    rcases this with rfl | rfl
    · rw [gmul_zero, if_pos rfl]; rfl
    · rw [gmul_one (E_lt _), if_neg (by omega), xsum_cons, xsum_nil, Nat.xor_zero]

/-- A syndrome is the sum of powers at the ones' places. -/
theorem syn_ones {p : List Nat} (hp : Bin p) (e : Nat) : ev p (E e) = xsum (fun j => E (j * e)) (ones 0 p) := by
  have := ev_ones hp 0 e
  rw [Nat.zero_mul, show E 0 = 1 from rfl, one_gmul (ev_lt hp.bs)] at this
  exact this

theorem ones_mem {p : List Nat} {k j : Nat} : j ∈ ones k p ↔ k ≤ j ∧ cf p (j - k) ≠ 0 := by
  induction p generalizing k with
  | nil => simp [ones]
  | cons c p ih =>
    rw [ones, List.mem_append, ih]
    constructor
    · rintro (h | ⟨h1, h2⟩)
      · split at h
        · simp at h
        · simp at h
          subst h
          refine ⟨Nat.le_refl _, ?_⟩
          rw [Nat.sub_self, cf_zero]
          assumption
      · refine ⟨by omega, ?_⟩
        rw [show j - k = (j - (k + 1)) + 1 from by omega, cf_succ]
        exact h2
    · rintro ⟨h1, h2⟩
      by_cases e : j = k
      · subst e
        rw [Nat.sub_self, cf_zero] at h2
        left
        rw [if_neg h2]
        simp
      · right
        rw [show j - k = (j - (k + 1)) + 1 from by omega, cf_succ] at h2
        exact ⟨by omega, h2⟩

theorem ones_nodup (p : List Nat) (k : Nat) : (ones k p).Nodup := by
  induction p generalizing k with
  | nil => simp [ones]
  | cons c p ih =>
    rw [ones]
    split
    · simpa using ih (k + 1)
    · rw [List.singleton_append, List.nodup_cons]
      refine ⟨fun h => ?_, ih (k + 1)⟩
      have := (ones_mem.1 h).1
      omega

/-- **Two words of noughts and ones of which all eight syndromes are the same differ nowhere, or at nine places at least.** -/
theorem nine {p : List Nat} (hp : Bin p) (hl : p.length ≤ 255) (h : ∀ e, 1 ≤ e → e ≤ 8 → ev p (E e) = 0) : (∀ i, cf p i = 0) ∨ 9 ≤ (ones 0 p).length := by
  by_cases h8 : (ones 0 p).length ≤ 8
  · left
    have h0 := eight (at' := ones 0 p) (fun k hk => by
      have := (ones_mem.1 hk).2
      by_cases hk2 : k < p.length
      · omega
      · rw [Nat.sub_zero, cf_ge (by omega)] at this
        exact absurd rfl this) (ones_nodup p 0) h8 (fun i h1 h2 => by rw [← syn_ones hp i]; exact h i h1 h2)
    intro i
    by_cases hi : cf p i = 0
    · exact hi
    · have : i ∈ ones 0 p := ones_mem.2 ⟨Nat.zero_le _, by simpa using hi⟩
      rw [h0] at this
      simp at this
  · right; omega

end Go.Proofs.Ytkhpoomajebgoab

namespace Go.Proofs.Ytkhpoomajebgoab

/-- A byte's bits; a word's. -/
def bitL (x : Nat) : List Nat := [bt x 0, bt x 1, bt x 2, bt x 3, bt x 4, bt x 5, bt x 6, bt x 7]
def wb : List Nat → List Nat
  | [] => []
  | x :: w => bitL x ++ wb w
theorem wb_len (w : List Nat) : (wb w).length = 8 * w.length := by
  induction w with
  | nil => rfl
  | cons x w ih => rw [wb, List.length_append, ih, List.length_cons]; simp [bitL]; omega
theorem cf_bitL {x k : Nat} (hk : k < 8) : cf (bitL x) k = bt x k := by
  match k, hk with
  | 0, _ => rfl
  | 1, _ => rfl
  | 2, _ => rfl
  | 3, _ => rfl
  | 4, _ => rfl
  | 5, _ => rfl
  | 6, _ => rfl
  | 7, _ => rfl
theorem cf_wb (w : List Nat) (i : Nat) : cf (wb w) i = bt (cf w (i / 8)) (i % 8) := by
  induction w generalizing i with
  | nil => simp [wb, bt]
  | cons x w ih =>
    rw [wb, cf_append, show (bitL x).length = 8 from rfl]
    by_cases h : i < 8
    · rw [if_pos h, cf_bitL h, Nat.div_eq_of_lt h, Nat.mod_eq_of_lt h, cf_zero]
    · rw [if_neg h, ih, show i / 8 = (i - 8) / 8 + 1 from by omega, cf_succ, show (i - 8) % 8 = i % 8 from by omega]
theorem wb_bin (w : List Nat) : Bin (wb w) := fun i => by rw [cf_wb]; exact bt_le _ _

theorem wb_xor (v w : List Nat) (i : Nat) : cf (wb (padd v w)) i = cf (wb v) i ^^^ cf (wb w) i := by rw [cf_wb, cf_wb, cf_wb, cf_padd, bt_xor]

theorem wb_ext {v w : List Nat} (hv : Bs v) (hw : Bs w) (h : ∀ i, cf (wb v) i = cf (wb w) i) : Eqv v w := fun j => by
  refine bt_ext (hv j) (hw j) (fun k hk => ?_)
  have := h (8 * j + k)
  rwa [cf_wb, cf_wb, show (8 * j + k) / 8 = j from by omega, show (8 * j + k) % 8 = k from by omega] at this

/-- The e-th syndrome. -/
def syn (w : List Nat) (e : Nat) : Nat := ev (wb w) (E e)
theorem syn_lt (w : List Nat) (e : Nat) : syn w e < 256 := ev_lt (wb_bin w).bs
theorem syn_xor (v w : List Nat) (e : Nat) : syn (padd v w) e = syn v e ^^^ syn w e := by
  unfold syn
  rw [← ev_padd (wb_bin v).bs (wb_bin w).bs (E_lt e)]
  exact ev_congr (E_lt e) (fun i => by rw [wb_xor, cf_padd])
theorem syn_ones' (w : List Nat) (e : Nat) : syn w e = xsum (fun j => E (j * e)) (ones 0 (wb w)) := syn_ones (wb_bin w) e

/-- A codeword. -/
structure Code (w : List Nat) : Prop where
  len : w.length = 28
  bs : Bs w
  syn : ∀ e, 1 ≤ e → e ≤ 8 → syn w e = 0

theorem padd_len {v w : List Nat} (h : v.length = w.length) : (padd v w).length = v.length := by
  induction v generalizing w with
  | nil => cases w with
    | nil => rfl
    | cons y w => simp at h
  | cons x v ih =>
    cases w with
    | nil => simp at h
    | cons y w => rw [padd, List.length_cons, ih (by simpa using h), List.length_cons]

theorem Code.sum {v w : List Nat} (h : Code v) (k : Code w) : Code (padd v w) :=
  ⟨by rw [padd_len (by rw [h.len, k.len]), h.len], h.bs.padd k.bs, fun e h1 h2 => by rw [syn_xor, h.syn e h1 h2, k.syn e h1 h2]; rfl⟩

/-- The places where two words differ. -/
def diff (v w : List Nat) : List Nat := ones 0 (wb (padd v w))
theorem diff_mem {v w : List Nat} {i : Nat} : i ∈ diff v w ↔ cf (wb v) i ≠ cf (wb w) i := by
  unfold diff
  rw [ones_mem, Nat.sub_zero, wb_xor]
  constructor
  · rintro ⟨_, h⟩ e
    rw [e, Nat.xor_self] at h
    exact h rfl
  · intro h
    exact ⟨Nat.zero_le _, fun e => h (xor_eq_nought e)⟩

/-- **Two unlike codewords differ in at least nine bits.** -/
theorem Code.nine {v w : List Nat} (h : Code v) (k : Code w) : v = w ∨ 9 ≤ (diff v w).length := by
  have hs := h.sum k
  rcases Go.Proofs.Ytkhpoomajebgoab.nine (wb_bin (padd v w)) (by rw [wb_len, hs.len]; omega) (fun e h1 h2 => hs.syn e h1 h2) with h0 | h9
  · left
    refine eq_of_cf (by rw [h.len, k.len]) (wb_ext h.bs k.bs (fun i => ?_))
    have := h0 i
    rw [wb_xor] at this
    exact xor_eq_nought this
  · exact .inr h9

/-- The codeword of data. -/
structure IsEnc (d w : List Nat) : Prop where
  code : Code w
  data : w.drop 4 = d

theorem IsEnc.once {d v w : List Nat} (h : IsEnc d v) (k : IsEnc d w) : v = w := by
  have hs := h.code.sum k.code
  have hz : ∀ i, cf (wb (padd v w)) i = 0 := by
    have hlow : ∀ i, 32 ≤ i → cf (wb (padd v w)) i = 0 := fun i hi => by
      have e : cf v (i / 8) = cf w (i / 8) := by
        have h1 := cf_drop v 4 (i / 8 - 4)
        have h2 := cf_drop w 4 (i / 8 - 4)
        rw [h.data, show 4 + (i / 8 - 4) = i / 8 from by omega] at h1
        rw [k.data, show 4 + (i / 8 - 4) = i / 8 from by omega] at h2
        rw [← h1, h2]
      rw [cf_wb, cf_padd, e, Nat.xor_self]
      simp [bt]
    have ht : Bin (trim (wb (padd v w))) := fun i => by rw [cf_trim]; exact wb_bin _ i
    have hl := trim_short hlow
    have hev : ∀ e, ev (trim (wb (padd v w))) (E e) = syn (padd v w) e := fun e => ev_congr (E_lt e) (cf_trim _)
    intro i
    rw [← cf_trim]
    exact short_nought ht hl (by rw [hev]; exact hs.syn 1 (by omega) (by omega)) (by rw [hev]; exact hs.syn 3 (by omega) (by omega)) (by rw [hev]; exact hs.syn 5 (by omega) (by omega)) (by rw [hev]; exact hs.syn 7 (by omega) (by omega)) i
  refine eq_of_cf (by rw [h.code.len, k.code.len]) (wb_ext h.code.bs k.code.bs (fun i => ?_))
  have := hz i
  rw [wb_xor] at this
  exact xor_eq_nought this

def flips (w l : List Nat) : List Nat := l.foldl flip1 w

theorem flips_len (w l : List Nat) : (flips w l).length = w.length := by
  induction l generalizing w with
  | nil => rfl
  | cons k l ih => rw [flips, List.foldl_cons, ← flips, ih, flip1_len]
theorem flips_bs {w : List Nat} (h : Bs w) (l : List Nat) : Bs (flips w l) := by
  induction l generalizing w with
  | nil => exact h
  | cons k l ih => exact ih (flip1_bs h k)

theorem wb_flip1 {w : List Nat} {k : Nat} (hk : k < 8 * w.length) (i : Nat) : cf (wb (flip1 w k)) i = cf (wb w) i ^^^ (if i = k then 1 else 0) := by
  rw [cf_wb, cf_wb, flip1, cf_set _ _ _ _ (by omega)]
  by_cases h : i / 8 = k / 8
  · rw [if_pos h, bt_xor, bt_pow, h]
    congr 1
    by_cases h2 : i % 8 = k % 8
    · rw [if_pos h2, if_pos (by omega)]
    · rw [if_neg h2, if_neg (by omega)]
  · rw [if_neg h, if_neg (by omega), Nat.xor_zero]

theorem wb_flips {w l : List Nat} (hl : ∀ k ∈ l, k < 8 * w.length) (hn : l.Nodup) (i : Nat) : cf (wb (flips w l)) i = cf (wb w) i ^^^ (if i ∈ l then 1 else 0) := by
  induction l generalizing w with
  | nil => simp [flips]
  | cons k l ih =>
    obtain ⟨h1, h2⟩ := List.nodup_cons.1 hn
    rw [flips, List.foldl_cons, ← flips, ih (fun j hj => by rw [flip1_len]; exact hl j (List.mem_cons_of_mem _ hj)) h2, wb_flip1 (hl k List.mem_cons_self), Nat.xor_assoc]
    congr 1
    by_cases e : i = k
    · subst e
      rw [if_pos rfl, if_neg h1, if_pos List.mem_cons_self]
      rfl
    · rw [if_neg e, Nat.zero_xor]
      by_cases e2 : i ∈ l
      · rw [if_pos e2, if_pos (List.mem_cons_of_mem _ e2)]
      · rw [if_neg e2, if_neg (by simp [e, e2])]

theorem diff_nodup (v w : List Nat) : (diff v w).Nodup := ones_nodup _ 0

theorem diff_flips {w l : List Nat} (hl : ∀ k ∈ l, k < 8 * w.length) (hn : l.Nodup) (i : Nat) : i ∈ diff w (flips w l) ↔ i ∈ l := by
  rw [diff_mem, wb_flips hl hn]
  by_cases h : i ∈ l
  · rw [if_pos h]
    refine ⟨fun _ => h, fun _ e => ?_⟩
    have := xor_cancel ((Nat.xor_zero (cf (wb w) i)).trans e)
    omega
  · rw [if_neg h, Nat.xor_zero]
    exact ⟨fun k => absurd rfl k, fun k => absurd k h⟩

theorem len_of_mem {l m : List Nat} (hl : l.Nodup) (h : ∀ i, i ∈ l → i ∈ m) : l.length ≤ m.length := by
  induction l generalizing m with
  | nil => simp
  | cons x l ih =>
    obtain ⟨h1, h2⟩ := List.nodup_cons.1 hl
    have hx := h x List.mem_cons_self
    have := ih (m := m.erase x) h2 (fun i hi => (List.mem_erase_of_ne (fun e : i = x => h1 (by rw [← e]; exact hi))).2 (h i (List.mem_cons_of_mem _ hi)))
    rw [List.length_erase_of_mem hx] at this
    have := List.length_pos_of_mem hx
    simp only [List.length_cons]
    omega
theorem len_eq {l m : List Nat} (hl : l.Nodup) (hm : m.Nodup) (h : ∀ i, i ∈ l ↔ i ∈ m) : l.length = m.length :=
  Nat.le_antisymm (len_of_mem hl (fun i => (h i).1)) (len_of_mem hm (fun i => (h i).2))

theorem diff_flips_len {w l : List Nat} (hl : ∀ k ∈ l, k < 8 * w.length) (hn : l.Nodup) : (diff w (flips w l)).length = l.length := len_eq (diff_nodup _ _) hn (diff_flips hl hn)

theorem diff_comm (v w : List Nat) : (diff v w).length = (diff w v).length := len_eq (diff_nodup _ _) (diff_nodup _ _) (fun i => by rw [diff_mem, diff_mem]; exact ⟨fun h e => h e.symm, fun h e => h e.symm⟩)

theorem diff_tri (u v w : List Nat) : (diff u w).length ≤ (diff u v).length + (diff v w).length := by
  rw [← List.length_append]
  refine len_of_mem (diff_nodup _ _) (fun i hi => ?_)
  rw [List.mem_append, diff_mem, diff_mem]
  rw [diff_mem] at hi
  by_cases h : cf (wb u) i = cf (wb v) i
  · right; rw [← h]; exact hi
  · exact .inl h

theorem diff_self (w : List Nat) : diff w w = [] := by
  cases h : diff w w with
  | nil => rfl
  | cons i l =>
    have : i ∈ diff w w := by rw [h]; simp
    exact absurd rfl (diff_mem.1 this)

/-- A codeword that is near is just one. -/
theorem near_once {u v w : List Nat} (hv : Code v) (hw : Code w) (h1 : (diff u v).length ≤ 3) (h2 : (diff u w).length ≤ 3) : v = w := by
  rcases hv.nine hw with h | h
  · exact h
  · have := diff_tri v u w
    rw [diff_comm v u] at this
    omega

/-- With four or five bits of a codeword turned none is near. -/
theorem near_none {u v w : List Nat} (hv : Code v) (hw : Code w) (h1 : 4 ≤ (diff u v).length) (h2 : (diff u v).length ≤ 5) : 4 ≤ (diff u w).length := by
  rcases hv.nine hw with h | h
  · rw [← h]; exact h1
  · have := diff_tri v u w
    rw [diff_comm v u] at this
    omega

end Go.Proofs.Ytkhpoomajebgoab

namespace Go.Proofs.Ytkhpoomajebgoab

theorem ev_sh (m : Nat) {p : List Nat} (hp : Bs p) {x : Nat} (hx : x < 256) : ev (sh m p) x = gmul (gp x m) (ev p x) := by
  induction m with
  | zero => exact (one_gmul (ev_lt hp)).symm
  | succ m ih =>
    have h1 := ev_lt (x := x) hp
    have h2 := gp_lt x m
    rw [show sh (m + 1) p = 0 :: sh m p from rfl, ev, Nat.xor_zero, ih, gp, gmul_assoc h2 h1 hx, gmul_assoc h2 hx h1, gmul_comm h1 hx]

/-- A bit turned, if c says so. -/
def tog (w : List Nat) (k c : Nat) : List Nat := w.set (k / 8) (cf w (k / 8) ^^^ c * 2 ^ (k % 8))
theorem tog_len (w : List Nat) (k c : Nat) : (tog w k c).length = w.length := by simp [tog]
theorem tog_eq {w : List Nat} {k c : Nat} (hc : c ≤ 1) : tog w k c = if c = 0 then w.set (k / 8) (cf w (k / 8)) else flip1 w k := by
  have : c = 0 ∨ c = 1 := by omega
  rcases this with rfl | rfl
  · simp [tog]
  · simp [tog, flip1]
theorem wb_tog {w : List Nat} {k c : Nat} (hk : k < 8 * w.length) (hc : c ≤ 1) (i : Nat) : cf (wb (tog w k c)) i = cf (wb w) i ^^^ (if i = k then c else 0) := by
  rw [tog_eq hc]
  have : c = 0 ∨ c = 1 := by omega
  rcases this with rfl | rfl
  · rw [if_pos rfl, cf_wb, cf_wb, cf_set _ _ _ _ (by omega)]
    by_cases h : i / 8 = k / 8
    · rw [if_pos h, h]; simp
    · rw [if_neg h]; simp
  · rw [if_neg (by omega)]
    exact wb_flip1 hk i
theorem tog_bs {w : List Nat} (h : Bs w) {k c : Nat} (hc : c ≤ 1) : Bs (tog w k c) := by
  rw [tog_eq hc]
  split
  · by_cases hk : k / 8 < w.length
    · intro i
      rw [cf_set _ _ _ _ hk]
      split
      · exact h _
      · exact h i
    · rw [List.set_eq_of_length_le (by omega)]; exact h
  · exact flip1_bs h k

theorem gRoots_first {e : Nat} (h1 : 1 ≤ e) (h8 : e ≤ 8) : e ∈ gRoots := by
  rw [gRoots_eq]
  have : e = 1 ∨ e = 2 ∨ e = 3 ∨ e = 4 ∨ e = 5 ∨ e = 6 ∨ e = 7 ∨ e = 8 := by omega
  rcases this with rfl | rfl | rfl | rfl | rfl | rfl | rfl | rfl <;> simp

/-- A multiple of the generator taken away leaves the syndromes. -/
theorem syn_gen {v w : List Nat} {m : Nat} (h : ∀ i, cf (wb w) i = cf (wb v) i ^^^ cf (sh m genP) i) {e : Nat} (h1 : 1 ≤ e) (h8 : e ≤ 8) : syn w e = syn v e := by
  unfold syn
  rw [ev_congr (E_lt e) (q := padd (wb v) (sh m genP)) (fun i => by rw [h i, cf_padd]), ev_padd (wb_bin v).bs (Bs.sh genP_bin.bs) (E_lt e), ev_sh m genP_bin.bs (E_lt e), genP_roots e (gRoots_first h1 h8), gmul_zero, Nat.xor_zero]

/-- What is left by dividing stands ahead of the data. -/
theorem enc_made {d rest : List Nat} (hd : Bs d) (hl : d.length = 24) (hr : Bs rest) (hrl : rest.length = 28) (hs : ∀ e, 1 ≤ e → e ≤ 8 → syn rest e = syn (List.replicate 4 0 ++ d) e) (hz : ∀ i, 32 ≤ i → cf (wb rest) i = 0) : IsEnc d (rest.take 4 ++ d) := by
  have hlen : (rest.take 4 ++ d).length = 28 := by rw [List.length_append, List.length_take, hrl, hl]; rfl
  have hrz : ∀ j, 4 ≤ j → cf rest j = 0 := fun j hj => by
    refine bt_ext (hr j) (by omega) (fun k hk => ?_)
    have := hz (8 * j + k) (by omega)
    rw [cf_wb, show (8 * j + k) / 8 = j from by omega, show (8 * j + k) % 8 = k from by omega] at this
    rw [this]
    simp [bt]
  have e : Eqv (rest.take 4 ++ d) (padd (List.replicate 4 0 ++ d) rest) := fun j => by
    rw [cf_padd, cf_append, cf_append, List.length_take, hrl, List.length_replicate]
    by_cases h : j < 4
    · rw [if_pos (by simpa using h), if_pos h, cf_take, if_pos h, cf_replicate, Nat.zero_xor]
    · rw [if_neg (by simpa using h), if_neg h, hrz j (by omega), Nat.xor_zero]
      rfl
  have hb : Bs (List.replicate 4 0 ++ d) := fun i => by
    rw [cf_append]
    split
    · rw [cf_replicate]; omega
    · exact hd _
  refine ⟨⟨hlen, (hb.padd hr).eqv e.symm, fun k h1 h8 => ?_⟩, ?_⟩
  · have : syn (rest.take 4 ++ d) k = syn (padd (List.replicate 4 0 ++ d) rest) k := ev_congr (E_lt k) (fun i => by rw [cf_wb, cf_wb, e])
    rw [this, syn_xor, hs k h1 h8, Nat.xor_self]
  · rw [List.drop_left' (by rw [List.length_take, hrl]; rfl)]

/-- The places l tell these syndromes. -/
structure Good (S : Nat → Nat) (l : List Nat) : Prop where
  nd : l.Nodup
  lt : ∀ k ∈ l, k < 224
  eq : ∀ e, 1 ≤ e → e ≤ 8 → xsum (fun k => E (k * e)) l = S e

def ZeroS (S : Nat → Nat) : Prop := ∀ e, 1 ≤ e → e ≤ 8 → S e = 0
/-- Syndromes, with a bit at a place turned. -/
def tS (S : Nat → Nat) (k : Nat) : Nat → Nat := fun e => S e ^^^ E (k * e)

theorem good_nil {S : Nat → Nat} : Good S [] ↔ ZeroS S := ⟨fun h e h1 h8 => (h.eq e h1 h8).symm, fun h => ⟨List.nodup_nil, by simp, fun e h1 h8 => (h e h1 h8).symm⟩⟩

theorem good_cons {S : Nat → Nat} {k : Nat} {l : List Nat} (hk : k < 224) (hn : k ∉ l) : Good S (k :: l) ↔ Good (tS S k) l := by
  constructor
  · intro h
    refine ⟨(List.nodup_cons.1 h.nd).2, fun j hj => h.lt j (List.mem_cons_of_mem _ hj), fun e h1 h8 => ?_⟩
    unfold tS
    rw [← h.eq e h1 h8, xsum_cons, Nat.xor_comm, ← Nat.xor_assoc, Nat.xor_self, Nat.zero_xor]
  · intro h
    refine ⟨List.nodup_cons.2 ⟨hn, h.nd⟩, fun j hj => ?_, fun e h1 h8 => ?_⟩
    · rcases List.mem_cons.1 hj with rfl | hj
      · exact hk
      · exact h.lt j hj
    · rw [xsum_cons, h.eq e h1 h8]
      unfold tS
      rw [Nat.xor_comm (S e), ← Nat.xor_assoc, Nat.xor_self, Nat.zero_xor]

theorem good_perm {S : Nat → Nat} {l m : List Nat} (hp : l.Perm m) (h : Good S l) : Good S m :=
  ⟨hp.nodup_iff.1 h.nd, fun k hk => h.lt k (hp.mem_iff.2 hk), fun e h1 h8 => by rw [← xsum_perm hp]; exact h.eq e h1 h8⟩

theorem tS_twice (S : Nat → Nat) (k e : Nat) : tS (tS S k) k e = S e := by unfold tS; rw [Nat.xor_assoc, Nat.xor_self, Nat.xor_zero]
theorem tS_comm (S : Nat → Nat) (j k e : Nat) : tS (tS S j) k e = tS (tS S k) j e := by unfold tS; rw [Nat.xor_assoc, Nat.xor_assoc, Nat.xor_comm (E (j * e))]

/-- One place, as it is found. -/
theorem single_good {S : Nat → Nat} (hl : L (S 1) < 224) (hz : ZeroS (tS S (L (S 1)))) : Good S [L (S 1)] := (good_cons hl (by simp)).2 (good_nil.2 hz)
theorem single_find {S : Nat → Nat} {j : Nat} (h : Good S [j]) : S 1 ≠ 0 ∧ L (S 1) = j ∧ ZeroS (tS S j) := by
  have hj := h.lt j (by simp)
  have h1 := h.eq 1 (by omega) (by omega)
  rw [xsum_cons, xsum_nil, Nat.xor_zero, Nat.mul_one] at h1
  refine ⟨by rw [← h1]; have := E_ne j; omega, by rw [← h1]; exact L_E (by omega), good_nil.1 ((good_cons hj (by simp)).1 h)⟩

/-- Two places, as they are found. -/
theorem pair_good {S : Nat → Nat} {i : Nat} (hi : i < 224) (h0 : ¬ ZeroS S) {k : Nat} (h : Good (tS S i) [k]) : Good S [i, k] := by
  refine (good_cons hi ?_).2 h
  intro hm
  have e := List.mem_singleton.1 hm
  subst e
  refine h0 (fun e h1 h8 => ?_)
  have := (single_find h).2.2 e h1 h8
  rwa [tS_twice] at this
theorem pair_find {S : Nat → Nat} {i k : Nat} (h : Good S [i, k]) : Good (tS S i) [k] := (good_cons (h.lt i (by simp)) (by have := (List.nodup_cons.1 h.nd).1; exact this)).1 h

/-- Three places, as they are found. -/
theorem three_good {S : Nat → Nat} {i j x : Nat} (hi : i < 224) (hj : j < 224) (hx : x < 224) (hij : i ≠ j) (h1 : ∀ k, ¬ Good S [k]) (h : ZeroS (tS (tS (tS S i) j) x)) : Good S [i, j, x] := by
  have hxj : j ≠ x := fun e => by
    subst e
    exact h1 i ((good_cons hi (by simp)).2 (good_nil.2 (fun e k1 k8 => by have := h e k1 k8; rwa [tS_twice] at this)))
  have hxi : i ≠ x := fun e => by
    subst e
    refine h1 j ((good_cons hj (by simp)).2 (good_nil.2 (fun e k1 k8 => ?_)))
    have := h e k1 k8
    rw [tS_comm] at this
    unfold tS at this ⊢
    rwa [Nat.xor_assoc (S e), Nat.xor_self, Nat.xor_zero] at this
  exact (good_cons hi (by simp [hij, hxi])).2 ((good_cons hj (by simp [hxj])).2 ((good_cons hx (by simp)).2 (good_nil.2 h)))
theorem three_find {S : Nat → Nat} {i j x : Nat} (h : Good S [i, j, x]) : ZeroS (tS (tS (tS S i) j) x) ∧ tS S i 1 ≠ E j ∧ L (tS S i 1 ^^^ E j) = x := by
  obtain ⟨n1, n2⟩ := List.nodup_cons.1 h.nd
  obtain ⟨n3, _⟩ := List.nodup_cons.1 n2
  have h1 := (good_cons (h.lt i (by simp)) n1).1 h
  have h2 := (good_cons (h.lt j (by simp)) n3).1 h1
  obtain ⟨k1, k2, k3⟩ := single_find h2
  have e : tS (tS S i) j 1 = tS S i 1 ^^^ E j := by
    show tS S i 1 ^^^ E (j * 1) = _
    rw [Nat.mul_one]
  rw [e] at k1 k2
  exact ⟨k3, fun e => k1 (by rw [e, Nat.xor_self]), k2⟩
/-- Three places may be taken up in rising order. -/
theorem three_rise {S : Nat → Nat} {l : List Nat} (h : Good S l) (hl : l.length = 3) : ∃ i j x, i < j ∧ Good S [i, j, x] := by
  match l, hl with
  | [a, b, c], _ =>
    have hn := h.nd
    simp at hn
    by_cases hab : a < b
    · exact ⟨a, b, c, hab, h⟩
    · exact ⟨b, a, c, by omega, good_perm (List.Perm.swap b a [c]) h⟩

theorem syn_flip1 {w : List Nat} {k : Nat} (hk : k < 8 * w.length) (e : Nat) : syn (flip1 w k) e = syn w e ^^^ E (k * e) := by
  unfold syn
  have h1 : Bs [1] := Bs.cons (by omega) Bs.nil
  have he : ev [1] (E e) = 1 := by
    have : ev [1] (E e) = gmul 0 (E e) ^^^ 1 := rfl
    rw [this, zero_gmul (E_lt e), Nat.zero_xor]
  rw [ev_congr (E_lt e) (q := padd (wb w) (sh k [1])) (fun i => by
    rw [wb_flip1 hk, cf_padd, cf_sh]
    congr 1
    by_cases h : i = k
    · subst h; simp
    · rw [if_neg h]
      split
      · rfl
      · obtain ⟨j, hj⟩ : ∃ j, i - k = j + 1 := ⟨i - k - 1, by omega⟩
        rw [hj]; rfl), ev_padd (wb_bin w).bs (Bs.sh h1) (E_lt e), ev_sh k h1 (E_lt e), he, gmul_one (gp_lt _ _), gp_E, Nat.mul_comm]
theorem syn_flips {w l : List Nat} (hl : ∀ k ∈ l, k < 8 * w.length) (e : Nat) : syn (flips w l) e = syn w e ^^^ xsum (fun k => E (k * e)) l := by
  induction l generalizing w with
  | nil => simp [flips]
  | cons k l ih => rw [flips, List.foldl_cons, ← flips, ih (fun j hj => by rw [flip1_len]; exact hl j (List.mem_cons_of_mem _ hj)), syn_flip1 (hl k List.mem_cons_self), xsum_cons, Nat.xor_assoc]

/-- Where places tell a word's syndromes, with these turned it is a codeword. -/
theorem Good.code {w l : List Nat} (hl : w.length = 28) (hb : Bs w) (h : Good (syn w) l) : Code (flips w l) :=
  ⟨by rw [flips_len, hl], flips_bs hb l, fun e h1 h8 => by rw [syn_flips (fun k hk => by rw [hl]; exact h.lt k hk), h.eq e h1 h8, Nat.xor_self]⟩
/-- The places where a codeword differs tell a word's syndromes. -/
theorem code_good {v w : List Nat} (hv : Code v) (hl : w.length = 28) : Good (syn w) (diff w v) := by
  have hpl : (padd w v).length = 28 := by rw [padd_len (by rw [hl, hv.len]), hl]
  refine ⟨diff_nodup _ _, fun k hk => ?_, fun e h1 h8 => ?_⟩
  · have hm := (ones_mem.1 hk).2
    by_cases h : k < 224
    · exact h
    · rw [Nat.sub_zero, cf_ge (by rw [wb_len, hpl]; omega)] at hm
      exact absurd rfl hm
  · show xsum _ (ones 0 (wb (padd w v))) = _
    rw [← syn_ones', syn_xor, hv.syn e h1 h8, Nat.xor_zero]

/-- With the places turned where it differs, a word is the other one. -/
theorem flips_diff {v w : List Nat} (hv : Bs v) (hw : Bs w) (hl : w.length = v.length) : flips w (diff w v) = v := by
  have hlt : ∀ k ∈ diff w v, k < 8 * w.length := fun k hk => by
    have hm := (ones_mem.1 hk).2
    by_cases h : k < 8 * w.length
    · exact h
    · rw [Nat.sub_zero, cf_ge (by rw [wb_len, padd_len hl]; omega)] at hm
      exact absurd rfl hm
  refine eq_of_cf (by rw [flips_len, hl]) (wb_ext (flips_bs hw _) hv (fun i => ?_))
  rw [wb_flips hlt (diff_nodup _ _)]
  by_cases h : i ∈ diff w v
  · rw [if_pos h]
    have hne := diff_mem.1 h
    have h1 := wb_bin w i
    have h2 := wb_bin v i
    have : (cf (wb w) i = 0 ∧ cf (wb v) i = 1) ∨ (cf (wb w) i = 1 ∧ cf (wb v) i = 0) := by omega
    rcases this with ⟨a, b⟩ | ⟨a, b⟩ <;> rw [a, b] <;> rfl
  · rw [if_neg h, Nat.xor_zero]
    by_cases e : cf (wb w) i = cf (wb v) i
    · exact e
    · exact absurd (diff_mem.2 e) h

/-- What is told of a word: the places (three at most) of a codeword that is near, or that there is none. -/
inductive Told (w : List Nat) : Option (List Nat) → Prop
  | near (l : List Nat) : Good (syn w) l → l.length ≤ 3 → Told w (some l)
  | far : (∀ l, Good (syn w) l → 4 ≤ l.length) → Told w none

/-- It is told in one way: the same codeword, as many bits. -/
theorem Told.once {w : List Nat} (hl : w.length = 28) (hb : Bs w) {a b : Option (List Nat)} (ha : Told w a) (hb2 : Told w b) : (a = none ∧ b = none) ∨ ∃ l m, a = some l ∧ b = some m ∧ flips w l = flips w m ∧ l.length = m.length := by
  have lt : ∀ {l}, Good (syn w) l → ∀ k ∈ l, k < 8 * w.length := fun h k hk => by rw [hl]; exact h.lt k hk
  cases ha with
  | near l h1 h2 =>
    cases hb2 with
    | near m k1 k2 =>
      refine .inr ⟨l, m, rfl, rfl, ?_⟩
      have e : flips w l = flips w m := near_once (u := w) (h1.code hl hb) (k1.code hl hb) (by rw [diff_flips_len (lt h1) h1.nd]; exact h2) (by rw [diff_flips_len (lt k1) k1.nd]; exact k2)
      refine ⟨e, ?_⟩
      rw [← diff_flips_len (lt h1) h1.nd, e, diff_flips_len (lt k1) k1.nd]
    | far k => have := k l h1; omega
  | far h =>
    cases hb2 with
    | near m k1 k2 => have := h m k1; omega
    | far k => exact .inl ⟨rfl, rfl⟩

end Go.Proofs.Ytkhpoomajebgoab
