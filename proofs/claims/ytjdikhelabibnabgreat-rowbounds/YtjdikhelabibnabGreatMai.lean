/-
  The laws' own Places.
  Roots of polynomials, sums of powers, without the program: what bch leans on.
  slices.Chunk of two pieces, and its iterator.
-/
import Derived.Test.YtjdikhelabibnabGreatMah
import Derived.Test.YtjdikhelabibnabGreatMab
import Derived.Test.YtjdikhelabibnabGreatMag
namespace Go.Proofs.YtjdikhelabibnabGreat
open Go.RowKit

theorem within4_any (a n : Int) (w : World) (hn : 0 < n) (hn2 : n < 100000) :
    Calls Tryz.prog 17 #[.int .i64 a, .int .i64 n] w fun e w' => e = .returned (.int .i64 (a % n)) ∧ w' = w := by
  obtain ⟨h1, h2, h3, h4⟩ := tmod_emod a n hn
  have H1 := hide h1
  have H2 := hide h2
  clear h1 h2
  go_enter Tryz.func17, Tryz.ntmps17
  go_wp2
  · have h5 : a.tmod n < 0 := by assumption
    go_ret
    exact ⟨by rw [← unhide H1 h5]; rfl, rfl⟩
  · have h5 : 0 ≤ a.tmod n := by assumption
    go_ret
    exact ⟨by rw [← unhide H2 h5]; rfl, rfl⟩

set_option maxRecDepth 100000 in
set_option maxHeartbeats 8000000 in
theorem places_any {w : World} (ao : Option Addr) (g len cap : Nat) (zs : List Int) (hz : zs.length = len) (hr : IRow w ao g zs) (hcap : len ≤ cap) (hm : cap ≤ maxLen) (hb : ∀ z ∈ zs, -9223372036854775808 ≤ z ∧ z ≤ 9223372036854775807) (n most : Nat) (hn0 : 0 < n) (hn1 : n < 1000) (hmo : most ≤ 1000) :
    Calls Tryz.prog 10 #[.slice ao len cap, .int .i64 (n : Int), .int .i64 (most : Int)] w fun e w' => ∃ v ps, e = .returned v ∧ ps.Nodup ∧ (∀ k ∈ ps, k < n) ∧ ps.length ≤ most ∧ OwnI w.heap.size w' v ps ∧ Below w.heap.size w w' := by
  obtain ⟨i0, hi0, hz0, hz1, hz2⟩ := info_parts infoI
  have HI := hide hi0
  have HR := hide hr
  have HZ := hide hz
  have HBO := hide hb
  clear hr hi0 hz hb
  have hlen : (len : Int) ≤ 9223372036854775807 := by unfold maxLen at hm; omega
  go_enter Tryz.func10, Tryz.ntmps10
  go_wp2_with fail
  go_loopw [7, 8] (fun v p wr => ∃ (i : Nat) (ps : List Nat) (v0 : Value), v = v0 ∧ p = .int .i64 i ∧ i ≤ len ∧ ps.Nodup ∧ (∀ k ∈ ps, k < n) ∧ ps.length ≤ most ∧ OwnI w.heap.size wr v ps ∧ Kp [] w wr) (fun _ p _ => len - (intOf p).toNat)
  case atStart => exact ⟨0, [], _, rfl, rfl, by omega, by simp, by simp, by simp, OwnI.nil _ _, Kp.refl _ _⟩
  case round =>
    obtain ⟨i, ps, v, rfl, rfl, hi, hnd, hlt24, hpl, hO, hK⟩ := hrel
    have HO := hide hO
    have HK := hide hK
    have HND := hide hnd
    have H224 := hide hlt24
    obtain ⟨vo, vc, rfl, hsh⟩ : ∃ vo vc, u7 = .slice vo ps.length vc ∧ ((vo = none ∧ ps = []) ∨ ∃ q, vo = some ⟨q, 0, none⟩ ∧ ∀ j, j < ps.length → wr.cell? ⟨q, j, none⟩ = some (.int .i64 ((cf ps j : Nat) : Int))) := by
      rcases hO.shape with ⟨h1, h2⟩ | ⟨q, cq, h1, h2, h3, h4, h5, h6⟩
      · exact ⟨none, 0, by rw [h1, h2]; rfl, .inl ⟨rfl, h2⟩⟩
      · exact ⟨some ⟨q, 0, none⟩, cq, h1, .inr ⟨q, rfl, h6⟩⟩
    have HSH := hide hsh
    have hsz := hK.size
    clear hO hK hnd hlt24 hsh
    by_cases hlt : i < len
    · have hi1 : (i : Int) < (len : Int) := by omega
      by_cases hmm : ps.length < most
      · have hm1 : (ps.length : Int) < (most : Int) := by omega
        obtain ⟨o, rfl, hcl⟩ := irow_some' (unhide HR) (by rw [unhide HZ]; omega)
        have hc := hcl i (by rw [unhide HZ]; exact hlt)
        have hcw := (unhide HK).cell hc (by simp)
        clear hcl hc
        obtain ⟨z, hzz⟩ : ∃ z, zs.getD i 0 = z := ⟨_, rfl⟩
        rw [hzz] at hcw
        clear hzz
        go_wp2_with fail
        refine (within4_any z n wr (by omega) (by omega)).mono ?_
        rintro e w' ⟨rfl, hw'⟩
        subst hw'
        obtain ⟨k, hk⟩ : ∃ k : Nat, z % (n : Int) = (k : Int) := ⟨(z % (n : Int)).toNat, by have := Int.emod_nonneg z (show (n : Int) ≠ 0 by omega); omega⟩
        have hk2 : k < n := by have := Int.emod_lt_of_pos z (show (0 : Int) < n by omega); omega
        rw [hk]
        clear hk hcw
        go_wp2_with fail
        go_loop [10, 11] (fun b q => ∃ (j : Nat) (y : Bool), b = .bool y ∧ q = .int .i64 j ∧ j ≤ ps.length ∧ (y = true ↔ k ∈ ps.take j)) (fun _ q => ps.length - (intOf q).toNat)
        case atStart => exact ⟨0, false, rfl, rfl, by omega, by simp⟩
        case round =>
          obtain ⟨j, y, rfl, rfl, hj, hy⟩ := hrel
          have HY := hide hy
          clear hy
          by_cases hj2 : j < ps.length
          · have hj1 : (j : Int) < (ps.length : Int) := by omega
            cases y with
            | true =>
              go_wp2_with fail
              go_round
              case rel => exact ⟨j + 1, true, rfl, by go_num, by omega, by rw [take_mem hj2]; exact ⟨fun h => .inl ((unhide HY).1 h), fun _ => rfl⟩⟩
              case measure => simp [intOf]; omega
            | false =>
              have hno : ¬ k ∈ ps.take j := fun h => by have := (unhide HY).2 h; cases this
              have hcq : ∃ q, vo = some ⟨q, 0, none⟩ ∧ w'.cell? ⟨q, j, none⟩ = some (.int .i64 ((cf ps j : Nat) : Int)) := by
                rcases unhide HSH with ⟨_, h⟩ | ⟨q, h1, h2⟩
                · rw [h] at hj2; simp at hj2
                · exact ⟨q, h1, h2 j hj2⟩
              obtain ⟨q, rfl, hcq⟩ := hcq
              by_cases he : cf ps j = k
              · have he1 : (((cf ps j : Nat) : Int) == (k : Int)) = true := by rw [he]; simp
                go_wp2_with fail
                go_round
                case rel => exact ⟨j + 1, true, rfl, by go_num, by omega, by rw [take_mem hj2]; exact ⟨fun _ => .inr he, fun _ => rfl⟩⟩
                case measure => simp [intOf]; omega
              · have he1 : (((cf ps j : Nat) : Int) == (k : Int)) = false := by rw [beq_eq_false_iff_ne]; omega
                go_wp2_with fail
                go_round
                case rel => exact ⟨j + 1, false, rfl, by go_num, by omega, by rw [take_mem hj2]; exact ⟨fun h => (by cases h), fun h => h.elim (fun h => absurd h hno) (fun h => absurd h he)⟩⟩
                case measure => simp [intOf]; omega
          · have hj3 : j = ps.length := by omega
            subst hj3
            have hy := unhide HY
            rw [List.take_length] at hy
            cases y with
            | true =>
              go_wp2_with fail
              go_roundw
              case rel => exact ⟨i + 1, ps, _, rfl, by go_num, by omega, unhide HND, unhide H224, hpl, unhide HO, unhide HK⟩
              case measure => simp [intOf]; omega
            | false =>
              have hno : ¬ k ∈ ps := fun h => by have := hy.2 h; cases this
              have HNO := hide hno
              clear hy hno
              have HO2 : Hid (OwnI w.heap.size (w'.alloc (.cells #[.int .i64 (k : Int)] 3)) (.slice vo ps.length vc) ps) := (unhide HO).keep (fun b _ hb => Below.heap_alloc _ _ _ hb)
              have HC2 := hide (cell_new' w' (.int .i64 (k : Int)) 3).1
              have HK2 := hide ((unhide HK).alloc (.cells #[.int .i64 (k : Int)] 3))
              go_wp2_with (at_builtin; refine wpList_append_int _ rfl _ _ 23 rfl w.heap.size 3 i0 Tryz.underlying23 (unhide HI) hz0 hz1 hz2 (.slice vo ps.length vc) ps.length _ rfl (unhide HO2) w'.heap.size (k : Int) rfl (unhide HC2) (by omega) (by simp; omega) ?_)
              intro v2 w2 ho hg
              have HO3 := hide (OwnI.snoc ho)
              have HK3 := hide ((unhide HK2).grown hg (fun b e => by
                have hsh := unhide HO2
                rcases hsh.shape with ⟨h1, _⟩ | ⟨q, cq, h1, h2, _⟩
                · rw [h1] at e; cases e
                · rw [h1] at e; cases e; exact .inr h2))
              clear ho hg
              go_wp2_with fail
              go_roundw
              case rel => exact ⟨i + 1, ps ++ [k], _, rfl, by go_num, by omega, List.nodup_append.2 ⟨unhide HND, by simp, by simp; intro a ha e; exact unhide HNO (e ▸ ha)⟩, by
                intro a ha
                rcases List.mem_append.1 ha with h | h
                · exact unhide H224 a h
                · rw [List.mem_singleton.1 h]; exact hk2, by simp; omega, unhide HO3, unhide HK3⟩
              case measure => simp [intOf]; omega
      · have hm1 : (most : Int) ≤ (ps.length : Int) := by omega
        go_wp2
        go_ret
        exact ⟨_, ps, rfl, unhide HND, unhide H224, hpl, unhide HO, (unhide HK).below⟩
    · have hi2 : i = len := by omega
      subst hi2
      go_wp2
      go_ret
      exact ⟨_, ps, rfl, unhide HND, unhide H224, hpl, unhide HO, (unhide HK).below⟩

end Go.Proofs.YtjdikhelabibnabGreat

namespace Go.Proofs.YtjdikhelabibnabGreat

/-- The product of x and these. -/
def rtF (p : List Nat) (a : Nat) : List Nat := trim (pmul p [a, 1])
def rtP (l : List Nat) : List Nat := l.foldl rtF [1]

theorem lin_trim (a : Nat) : trim [a, 1] = [a, 1] := trim_self (.inr (by simp))
theorem lin_bs {a : Nat} (h : a < 256) : Bs [a, 1] := Bs.cons h (Bs.cons (by omega) Bs.nil)
theorem lin_ev {a x : Nat} (hx : x < 256) : ev [a, 1] x = x ^^^ a := by
  have : ev [a, 1] x = gmul (gmul 0 x ^^^ 1) x ^^^ a := rfl
  rw [this, zero_gmul hx, Nat.zero_xor, one_gmul hx]

theorem rtP_len {l : List Nat} (h : ∀ x ∈ l, x < 256) : (rtP l).length = l.length + 1 ∧ trim (rtP l) = rtP l ∧ Bs (rtP l) := by
  have key : ∀ (l : List Nat) (p : List Nat), (∀ x ∈ l, x < 256) → trim p = p → Bs p → 0 < p.length → (l.foldl rtF p).length = p.length + l.length ∧ trim (l.foldl rtF p) = l.foldl rtF p ∧ Bs (l.foldl rtF p) := by
    intro l
    induction l with
    | nil => intro p _ h1 h2 _; exact ⟨rfl, h1, h2⟩
    | cons a l ih =>
      intro p hl h1 h2 h3
      have ha : a < 256 := hl a List.mem_cons_self
      have hlen : (rtF p a).length = p.length + 1 := by
        have := trim_pmul_len h2 (lin_bs ha) (m := p.length - 1) (n := 1) (by rw [h1]; omega) (by rw [lin_trim]; rfl)
        unfold rtF
        omega
      obtain ⟨k1, k2, k3⟩ := ih (rtF p a) (fun x hx => hl x (List.mem_cons_of_mem _ hx)) (trim_trim _) (Bs.pmul h2).trim (by omega)
      exact ⟨by rw [List.foldl_cons, k1, hlen, List.length_cons]; omega, k2, k3⟩
  have := key l [1] h rfl (Bs.cons (by omega) Bs.nil) (by simp)
  exact ⟨by rw [rtP, this.1]; simp; omega, this.2.1, this.2.2⟩

theorem rtP_ev {l : List Nat} (h : ∀ x ∈ l, x < 256) {x : Nat} (hx : x < 256) : ev (rtP l) x = 0 ↔ x ∈ l := by
  have key : ∀ (l : List Nat) (p : List Nat), (∀ x ∈ l, x < 256) → Bs p → (ev (l.foldl rtF p) x = 0 ↔ ev p x = 0 ∨ x ∈ l) := by
    intro l
    induction l with
    | nil => intro p _ _; simp
    | cons a l ih =>
      intro p hl hp
      have ha : a < 256 := hl a List.mem_cons_self
      rw [List.foldl_cons, ih (rtF p a) (fun y hy => hl y (List.mem_cons_of_mem _ hy)) (Bs.pmul hp).trim, rtF, ev_congr hx (cf_trim _), ev_pmul hp (lin_bs ha) hx, lin_ev hx, List.mem_cons]
      constructor
      · rintro (h | h)
        · by_cases h1 : ev p x = 0
          · exact .inl h1
          · by_cases h2 : x ^^^ a = 0
            · exact .inr (.inl (xor_eq_nought h2))
            · exact absurd h (gmul_ne (ev_lt hp) (xor_lt hx ha) h1 h2)
        · exact .inr (.inr h)
      · rintro (h | h | h)
        · left; rw [h, zero_gmul (xor_lt hx ha)]
        · left; rw [h, Nat.xor_self, gmul_zero]
        · exact .inr h
  have := key l [1] h (Bs.cons (by omega) Bs.nil)
  have e1 : ev [1] x = 1 := by
    have : ev [1] x = gmul 0 x ^^^ 1 := rfl
    rw [this, zero_gmul hx, Nat.zero_xor]
  rw [rtP, this, e1]
  simp

/-- x to the e-th, by steps. -/
def gp (x : Nat) : Nat → Nat
  | 0 => 1
  | e + 1 => gmul (gp x e) x
theorem gp_lt (x e : Nat) : gp x e < 256 := by
  induction e with
  | zero => simp [gp]
  | succ e ih => exact gmul_lt ih
theorem gp_E (k e : Nat) : gp (E k) e = E (k * e) := by
  induction e with
  | zero => rfl
  | succ e ih => rw [gp, ih, gmul_E, Nat.mul_succ]

/-- The sum of f over a row. -/
def xsum (f : Nat → Nat) (xs : List Nat) : Nat := xs.foldr (fun x s => f x ^^^ s) 0
@[simp] theorem xsum_nil (f : Nat → Nat) : xsum f [] = 0 := rfl
@[simp] theorem xsum_cons (f : Nat → Nat) (x : Nat) (xs : List Nat) : xsum f (x :: xs) = f x ^^^ xsum f xs := rfl
theorem xsum_lt {f : Nat → Nat} {xs : List Nat} (h : ∀ x ∈ xs, f x < 256) : xsum f xs < 256 := by
  induction xs with
  | nil => simp
  | cons x xs ih => exact xor_lt (h x List.mem_cons_self) (ih (fun y hy => h y (List.mem_cons_of_mem _ hy)))
theorem xsum_xor (f g : Nat → Nat) (xs : List Nat) : xsum (fun x => f x ^^^ g x) xs = xsum f xs ^^^ xsum g xs := by
  induction xs with
  | nil => simp
  | cons x xs ih => rw [xsum_cons, xsum_cons, xsum_cons, ih, xor_four]
theorem xsum_mul (c : Nat) (f : Nat → Nat) (xs : List Nat) : xsum (fun x => gmul c (f x)) xs = gmul c (xsum f xs) := by
  induction xs with
  | nil => exact (gmul_zero c).symm
  | cons x xs ih => rw [xsum_cons, xsum_cons, ih, gmul_xor]
theorem xsum_congr {f g : Nat → Nat} {xs : List Nat} (h : ∀ x ∈ xs, f x = g x) : xsum f xs = xsum g xs := by
  induction xs with
  | nil => rfl
  | cons x xs ih => rw [xsum_cons, xsum_cons, h x List.mem_cons_self, ih (fun y hy => h y (List.mem_cons_of_mem _ hy))]
theorem xsum_nought {f : Nat → Nat} {xs : List Nat} (h : ∀ x ∈ xs, f x = 0) : xsum f xs = 0 := by
  induction xs with
  | nil => rfl
  | cons x xs ih => rw [xsum_cons, h x List.mem_cons_self, ih (fun y hy => h y (List.mem_cons_of_mem _ hy))]; rfl
theorem xsum_append (f : Nat → Nat) (xs ys : List Nat) : xsum f (xs ++ ys) = xsum f xs ^^^ xsum f ys := by
  induction xs with
  | nil => simp
  | cons x xs ih => rw [List.cons_append, xsum_cons, xsum_cons, ih, Nat.xor_assoc]
theorem xsum_perm {f : Nat → Nat} {xs ys : List Nat} (h : xs.Perm ys) : xsum f xs = xsum f ys := by
  induction h with
  | nil => rfl
  | cons x _ ih => rw [xsum_cons, xsum_cons, ih]
  | swap x y l => rw [xsum_cons, xsum_cons, xsum_cons, xsum_cons, xor_swap]
  | trans _ _ h1 h2 => exact h1.trans h2

/-- Where the sums of powers are noughts, the values' sums are. -/
theorem values_nought {xs p : List Nat} (hx : ∀ x ∈ xs, x < 256) (hp : Bs p) (e : Nat) (h : ∀ i, i < p.length → xsum (fun x => gp x (e + i)) xs = 0) : xsum (fun x => gmul (gp x e) (ev p x)) xs = 0 := by
  induction p generalizing e with
  | nil => exact xsum_nought (fun x _ => gmul_zero _)
  | cons c p ih =>
    have e1 : xsum (fun x => gmul (gp x e) (ev (c :: p) x)) xs = xsum (fun x => gmul (gp x (e + 1)) (ev p x) ^^^ gmul c (gp x e)) xs := by
      refine xsum_congr (fun x hm => ?_)
      have h1 := hx x hm
      have h2 := gp_lt x e
      have h3 := ev_lt (x := x) hp.tail
      rw [ev, gmul_xor, gp, gmul_assoc h2 h1 h3, gmul_comm h3 h1, gmul_comm h2 hp.head]
    rw [e1, xsum_xor, xsum_mul, ih hp.tail (e + 1) (fun i hi => by rw [Nat.add_right_comm]; exact h (i + 1) (by simpa using hi))]
    have := h 0 (by simp)
    rw [Nat.add_zero] at this
    rw [this, gmul_zero]
    rfl

/-- Up to m unlike numbers, none of them nought, of which the first m sums of powers are noughts: there are none. -/
theorem vander {xs : List Nat} (hx : ∀ x ∈ xs, x < 256 ∧ x ≠ 0) (hn : xs.Nodup) {m : Nat} (hm : xs.length ≤ m) (h : ∀ i, 1 ≤ i → i ≤ m → xsum (fun x => gp x i) xs = 0) : xs = [] := by
  cases xs with
  | nil => rfl
  | cons x xs =>
    exfalso
    have ht : ∀ y ∈ xs, y < 256 := fun y hy => (hx y (List.mem_cons_of_mem _ hy)).1
    obtain ⟨hl, _, hb⟩ := rtP_len ht
    have h1 := (hx x List.mem_cons_self)
    have key := values_nought (xs := x :: xs) (p := rtP xs) (fun y hy => (hx y hy).1) hb 1 (fun i hi => h (1 + i) (by omega) (by rw [hl] at hi; simp only [List.length_cons] at hm; omega))
    rw [xsum_cons, xsum_nought (fun y hy => by rw [(rtP_ev ht (ht y hy)).2 hy, gmul_zero]), Nat.xor_zero] at key
    have hne : ev (rtP xs) x ≠ 0 := fun h0 => (List.nodup_cons.1 hn).1 ((rtP_ev ht h1.1).1 h0)
    have hg : gp x 1 = x := by
      show gmul 1 x = x
      exact one_gmul h1.1
    rw [hg] at key
    exact gmul_ne h1.1 (ev_lt hb) h1.2 hne key

theorem nodup_map {f : Nat → Nat} {l : List Nat} (hf : ∀ a ∈ l, ∀ b ∈ l, f a = f b → a = b) (h : l.Nodup) : (l.map f).Nodup := by
  induction l with
  | nil => simp
  | cons x l ih =>
    obtain ⟨h1, h2⟩ := List.nodup_cons.1 h
    rw [List.map_cons, List.nodup_cons]
    refine ⟨fun hm => ?_, ih (fun a ha b hb => hf a (List.mem_cons_of_mem _ ha) b (List.mem_cons_of_mem _ hb)) h2⟩
    obtain ⟨y, hy, e⟩ := List.mem_map.1 hm
    have := hf y (List.mem_cons_of_mem _ hy) x List.mem_cons_self e
    subst this
    exact h1 hy

/-- The powers of 2 at unlike places are unlike. -/
theorem E_inj {a b : Nat} (ha : a < 255) (hb : b < 255) (h : E a = E b) : a = b := by rw [← L_E ha, ← L_E hb, h]

/-- Up to eight unlike places of which the eight syndromes are noughts: there are none. -/
theorem eight {at' : List Nat} (hp : ∀ k ∈ at', k < 255) (hn : at'.Nodup) (hl : at'.length ≤ 8) (h : ∀ i, 1 ≤ i → i ≤ 8 → xsum (fun k => E (k * i)) at' = 0) : at' = [] := by
  have hmap : ∀ (f : Nat → Nat) (l : List Nat), xsum f (l.map E) = xsum (fun k => f (E k)) l := by
    intro f l
    induction l with
    | nil => rfl
    | cons x l ih => rw [List.map_cons, xsum_cons, xsum_cons, ih]
  have := vander (xs := at'.map E) (fun x hx => by
    obtain ⟨k, _, rfl⟩ := List.mem_map.1 hx
    exact ⟨E_lt k, by have := E_ne k; omega⟩) (nodup_map (fun a ha b hb e => E_inj (hp a ha) (hp b hb) e) hn) (m := 8) (by rw [List.length_map]; exact hl)
    (fun i h1 h2 => by
      rw [hmap, ← h i h1 h2]
      exact xsum_congr (fun k _ => gp_E k i))
  exact List.map_eq_nil_iff.1 this

end Go.Proofs.YtjdikhelabibnabGreat

namespace Go.Proofs.YtjdikhelabibnabGreat
open Go.RowKit Go.Shelf

end Go.Proofs.YtjdikhelabibnabGreat
