/-
  Binary polynomials and their roots, the generator of bch, without the program.
-/
import Derived.Test.YtahjcahmlangiaaPolC
namespace Go.Proofs.Ytahjcahmlangiaa

/-- A root parts a factor off. -/
theorem root_part {p : List Nat} {a : Nat} (hp : Bs p) (ha : a < 256) (h : ev p a = 0) (hne : trim p ≠ []) : ∃ q, Bs q ∧ q.length + 1 ≤ p.length ∧ Eqv (pmul q [a, 1]) p := by
  have h0 := div_made (t := 1) hp (lin_bs ha) (by rw [lin_trim]; rfl) rfl
  generalize ((downN ((trim p).length - 1)).foldl (divF (trim [a, 1]) 1 (pw (cf (trim [a, 1]) 1) (-1))) (List.replicate ((trim p).length - 1) 0, trim p)) = qr at h0
  obtain ⟨q, r⟩ := qr
  dsimp only at h0
  generalize trim r = r at h0
  have h1 := h0.lt
  rw [lin_trim] at h1
  have e : ev p a = ev r a := by
    rw [← ev_congr ha h0.eq, ev_padd (Bs.pmul h0.bq) h0.br ha, ev_pmul h0.bq (lin_bs ha) ha, lin_ev ha, Nat.xor_self, gmul_zero, Nat.zero_xor]
  have hr : r = [] := by
    match r, h1 with
    | [], _ => rfl
    | [v], _ =>
      have hv : ev [v] a = v := by
        have : ev [v] a = gmul 0 a ^^^ v := rfl
        rw [this, zero_gmul ha, Nat.zero_xor]
      rw [h, hv] at e
      have := h0.tr
      rw [← e] at this
      simp [trim] at this
    | _ :: _ :: _, h => simp at h; omega
  subst hr
  have he : Eqv (pmul q [a, 1]) p := fun i => by
    have := h0.eq i
    rwa [cf_padd, cf_nil, Nat.xor_zero] at this
  refine ⟨q, h0.bq, ?_, he⟩
  have hq : q ≠ [] := by
    intro hq
    subst hq
    exact hne (trim_nought (fun i => (he i).symm))
  have hl := List.length_pos_iff.2 hq
  have := trim_pmul_len h0.bq (lin_bs ha) (m := q.length - 1) (n := 1) (by rw [h0.tq]; omega) (by rw [lin_trim]; rfl)
  rw [trim_congr he] at this
  have := trim_len p
  omega

/-- No more roots than its degree, but of nought. -/
theorem roots_few {xs p : List Nat} (hp : Bs p) (hx : ∀ x ∈ xs, x < 256) (hn : xs.Nodup) (hr : ∀ x ∈ xs, ev p x = 0) (hl : p.length ≤ xs.length) (i : Nat) : cf p i = 0 := by
  induction xs generalizing p i with
  | nil =>
    have : p = [] := List.eq_nil_of_length_eq_zero (by simpa using hl)
    rw [this]; rfl
  | cons a xs ih =>
    by_cases h0 : trim p = []
    · rw [← cf_trim, h0]; rfl
    · obtain ⟨q, hq, hql, he⟩ := root_part hp (hx a List.mem_cons_self) (hr a List.mem_cons_self) h0
      obtain ⟨hn1, hn2⟩ := List.nodup_cons.1 hn
      have ha := hx a List.mem_cons_self
      have z := ih hq (fun x hm => hx x (List.mem_cons_of_mem _ hm)) hn2 (fun x hm => by
        have hx1 := hx x (List.mem_cons_of_mem _ hm)
        have h1 := hr x (List.mem_cons_of_mem _ hm)
        rw [← ev_congr hx1 he, ev_pmul hq (lin_bs ha) hx1, lin_ev hx1] at h1
        by_cases hz : ev q x = 0
        · exact hz
        · refine absurd h1 (gmul_ne (ev_lt hq) (xor_lt hx1 ha) hz (fun h2 => ?_))
          have := xor_eq_nought h2
          subst this
          exact hn1 hm) (by simp only [List.length_cons] at hl; omega)
      rw [← he i, pmul_comm hq (lin_bs ha) i, pmul_right [a, 1] (q' := []) (fun j => z j) i, pmul_nil]

/-- Of noughts and ones. -/
def Bin (p : List Nat) : Prop := ∀ i, cf p i ≤ 1
theorem Bin.bs {p : List Nat} (h : Bin p) : Bs p := fun i => by have := h i; omega
theorem Bin.tail {x : Nat} {p : List Nat} (h : Bin (x :: p)) : Bin p := fun i => h (i + 1)

theorem sq_sum {a b : Nat} (ha : a < 256) (hb : b < 256) : gmul (a ^^^ b) (a ^^^ b) = gmul a a ^^^ gmul b b := by
  have h := sum_sq ha hb
  rwa [pw_sq (xor_lt ha hb), pw_sq ha, pw_sq hb] at h

theorem ev_sq {p : List Nat} (hp : Bin p) {x : Nat} (hx : x < 256) : ev p (gmul x x) = gmul (ev p x) (ev p x) := by
  induction p with
  | nil => exact (gmul_zero 0).symm
  | cons c p ih =>
    have hP := ev_lt (x := x) hp.tail.bs
    have hc : c ≤ 1 := hp 0
    have hcc : gmul c c = c := by
      have : c = 0 ∨ c = 1 := by omega
      rcases this with rfl | rfl
      · exact gmul_zero 0
      · exact one_gmul (by omega)
    rw [ev, ev, ih hp.tail, sq_sum (gmul_lt hP) (by omega), hcc]
    congr 1
    rw [gmul_assoc hP hP (gmul_lt hx), gmul_assoc hP hx (gmul_lt hP), ← gmul_assoc hP hx hx, gmul_comm (gmul_lt hP) hx]

theorem ev_two {p : List Nat} (hp : Bin p) (k : Nat) (h : ev p (E k) = 0) : ev p (E (2 * k)) = 0 := by
  have := ev_sq hp (E_lt k)
  rw [gmul_E, h, gmul_zero] at this
  rw [Nat.two_mul]
  exact this

theorem ev_mod (p : List Nat) (k : Nat) : ev p (E (k % 255)) = ev p (E k) := by rw [E_mod]

/-- All that are doubled from 1, 3, 5, 7. -/
def gRoots : List Nat := orb 1 ++ orb 3 ++ orb 5 ++ orb 7
theorem gRoots_facts : gRoots.length = 32 ∧ gRoots.Nodup ∧ (∀ k ∈ gRoots, k < 255) := by decide +kernel
theorem gRoots_eq : gRoots = [1, 2, 4, 8, 16, 32, 64, 128, 3, 6, 12, 24, 48, 96, 192, 129, 5, 10, 20, 40, 80, 160, 65, 130, 7, 14, 28, 56, 112, 224, 193, 131] := by decide +kernel

/-- The roots 1, 3, 5, 7 bring all 32. -/
theorem roots_all {p : List Nat} (hp : Bin p) (h1 : ev p (E 1) = 0) (h3 : ev p (E 3) = 0) (h5 : ev p (E 5) = 0) (h7 : ev p (E 7) = 0) : ∀ k ∈ gRoots, ev p (E k) = 0 := by
  have st : ∀ k, ev p (E k) = 0 → ev p (E (2 * k % 255)) = 0 := fun k hk => by rw [ev_mod]; exact ev_two hp k hk
  have run : ∀ n k, ev p (E k) = 0 → ∀ m ∈ orbF n k k, ev p (E m) = 0 := by
    intro n k hk
    have go : ∀ n m, ev p (E m) = 0 → ∀ j ∈ orbF n k m, ev p (E j) = 0 := by
      intro n
      induction n with
      | zero => intro m _ j hj; simp [orbF] at hj
      | succ n ih =>
        intro m hm j hj
        rw [orbF, List.mem_cons] at hj
        rcases hj with rfl | hj
        · exact hm
        · split at hj
          · simp at hj
          · exact ih _ (st m hm) j hj
    exact go n k hk
  intro k hk
  simp only [gRoots, List.mem_append] at hk
  rcases hk with ((hk | hk) | hk) | hk
  · exact run 8 1 h1 k hk
  · exact run 8 3 h3 k hk
  · exact run 8 5 h5 k hk
  · exact run 8 7 h7 k hk

/-- Up to 32 bits of which the syndromes are noughts are noughts. -/
theorem short_nought {p : List Nat} (hp : Bin p) (hl : p.length ≤ 32) (h1 : ev p (E 1) = 0) (h3 : ev p (E 3) = 0) (h5 : ev p (E 5) = 0) (h7 : ev p (E 7) = 0) (i : Nat) : cf p i = 0 := by
  obtain ⟨g1, g2, g3⟩ := gRoots_facts
  refine roots_few (xs := gRoots.map E) hp.bs (fun x hx => ?_) (nodup_map (fun a ha b hb e => E_inj (g3 a ha) (g3 b hb) e) g2) (fun x hx => ?_) (by rw [List.length_map, g1]; exact hl) i
  · obtain ⟨k, _, rfl⟩ := List.mem_map.1 hx
    exact E_lt k
  · obtain ⟨k, hk, rfl⟩ := List.mem_map.1 hx
    exact roots_all hp h1 h3 h5 h7 k hk

/-- The generator. -/
def genP : List Nat := [1, 3, 5, 7].foldl (fun g n => trim (pmul g (minP n))) [1]
theorem genP_facts : genP.length = 33 ∧ genP.all (fun x => decide (x ≤ 1)) = true ∧ cf genP 0 = 1 ∧ cf genP 32 = 1 := by decide +kernel
theorem genP_bin : Bin genP := fun i => by
  by_cases hi : i < genP.length
  · exact of_decide_eq_true (List.all_eq_true.1 genP_facts.2.1 _ (List.mem_of_getElem? (cf_get hi)))
  · rw [cf_ge (by omega)]; omega
theorem genP_roots : ∀ k ∈ gRoots, ev genP (E k) = 0 := roots_all genP_bin (by decide +kernel) (by decide +kernel) (by decide +kernel) (by decide +kernel)

/-- The places of the ones. -/
def ones : Nat → List Nat → List Nat
  | _, [] => []
  | k, c :: p => (if c = 0 then [] else [k]) ++ ones (k + 1) p

theorem ev_ones {p : List Nat} (hp : Bin p) (k e : Nat) : gmul (E (k * e)) (ev p (E e)) = xsum (fun j => E (j * e)) (ones k p) := by
  induction p generalizing k with
  | nil => exact gmul_zero _
  | cons c p ih =>
    have hc : c ≤ 1 := hp 0
    have h1 := ev_lt (x := E e) hp.tail.bs
    rw [ev, gmul_xor, ones, xsum_append, ← ih hp.tail (k + 1), Nat.succ_mul, ← gmul_E, gmul_assoc (E_lt _) (E_lt _) h1, gmul_comm h1 (E_lt e), Nat.xor_comm]
    congr 1
    have : c = 0 ∨ c = 1 := by omega
    rcases this with rfl | rfl
    · rw [gmul_zero, if_pos rfl]; rfl
    · rw [gmul_one (E_lt _), if_neg (by omega), xsum_cons, xsum_nil, Nat.xor_zero]

/-- A syndrome is the sum of powers at the ones' places. -/
theorem syn_ones {p : List Nat} (hp : Bin p) (e : Nat) : ev p (E e) = xsum (fun j => E (j * e)) (ones 0 p) := by
  have := ev_ones hp 0 e
  rw [Nat.zero_mul, show E 0 = 1 from rfl, one_gmul (ev_lt hp.bs)] at this
  exact this

theorem ones_mem {p : List Nat} {k j : Nat} : j ∈ ones k p ↔ k ≤ j ∧ cf p (j - k) ≠ 0 := by
  induction p generalizing k with
  | nil => simp [ones]
  | cons c p ih =>
    rw [ones, List.mem_append, ih]
    constructor
    · rintro (h | ⟨h1, h2⟩)
      · split at h
        · simp at h
        · simp at h
          subst h
          refine ⟨Nat.le_refl _, ?_⟩
          rw [Nat.sub_self, cf_zero]
          assumption
      · refine ⟨by omega, ?_⟩
        rw [show j - k = (j - (k + 1)) + 1 from by omega, cf_succ]
        exact h2
    · rintro ⟨h1, h2⟩
      by_cases e : j = k
      · subst e
        rw [Nat.sub_self, cf_zero] at h2
        left
        rw [if_neg h2]
        simp
      · right
        rw [show j - k = (j - (k + 1)) + 1 from by omega, cf_succ] at h2
        exact ⟨by omega, h2⟩

theorem ones_nodup (p : List Nat) (k : Nat) : (ones k p).Nodup := by
  induction p generalizing k with
  | nil => simp [ones]
  | cons c p ih =>
    rw [ones]
    split
    · simpa using ih (k + 1)
    · rw [List.singleton_append, List.nodup_cons]
      refine ⟨fun h => ?_, ih (k + 1)⟩
      have := (ones_mem.1 h).1
      omega

/-- **Two words of noughts and ones of which all eight syndromes are the same differ nowhere, or at nine places at least.** -/
theorem nine {p : List Nat} (hp : Bin p) (hl : p.length ≤ 255) (h : ∀ e, 1 ≤ e → e ≤ 8 → ev p (E e) = 0) : (∀ i, cf p i = 0) ∨ 9 ≤ (ones 0 p).length := by
  by_cases h8 : (ones 0 p).length ≤ 8
  · left
    have h0 := eight (at' := ones 0 p) (fun k hk => by
      have := (ones_mem.1 hk).2
      by_cases hk2 : k < p.length
      · omega
      · rw [Nat.sub_zero, cf_ge (by omega)] at this
        exact absurd rfl this) (ones_nodup p 0) h8 (fun i h1 h2 => by rw [← syn_ones hp i]; exact h i h1 h2)
    intro i
    by_cases hi : cf p i = 0
    · exact hi
    · have : i ∈ ones 0 p := ones_mem.2 ⟨Nat.zero_le _, by simpa using hi⟩
      rw [h0] at this
      simp at this
  · right; omega

end Go.Proofs.Ytahjcahmlangiaa
