/-
  What iterations over a polynomial's numbers come to, without the program.
-/
import Derived.Test.YtjdikhelabibnabGreatMaa
namespace Go.Proofs.YtjdikhelabibnabGreat

/-- The numbers that are not nought, and where they are, from k on. -/
def saidL : Nat → List Nat → List (Nat × Nat)
  | _, [] => []
  | k, y :: p => (if y = 0 then [] else [(k, y)]) ++ saidL (k + 1) p

theorem drop_cf {p : List Nat} {k : Nat} (h : k < p.length) : p.drop k = cf p k :: p.drop (k + 1) := by
  have := cf_get h
  rw [List.drop_eq_getElem_cons h]
  rw [List.getElem?_eq_getElem h] at this
  simp at this
  rw [this]

theorem saidL_nought {s : List Nat} {i : Nat} (h : i < s.length) (h0 : cf s i = 0) : saidL i (s.drop i) = saidL (i + 1) (s.drop (i + 1)) := by
  rw [drop_cf h, saidL, if_pos h0, List.nil_append]
theorem saidL_says {s : List Nat} {i : Nat} (h : i < s.length) (h0 : cf s i ≠ 0) : saidL i (s.drop i) = (i, cf s i) :: saidL (i + 1) (s.drop (i + 1)) := by
  rw [drop_cf h, saidL, if_neg h0]; rfl
theorem saidL_end {s : List Nat} {i : Nat} (h : s.length ≤ i) : saidL i (s.drop i) = [] := by rw [List.drop_eq_nil_of_le h]; rfl

/-- From the last one down. -/
def downL (s : List Nat) : Nat → List (Nat × Nat)
  | 0 => []
  | i + 1 => (i, cf s i) :: downL s i
def downN : Nat → List Nat
  | 0 => []
  | i + 1 => i :: downN i

/-- One item's x times, added at its place (o further). -/
def axs (o x : Nat) (s : List Nat) (y : Nat × Nat) : List Nat := s.set (o + y.1) (cf s (o + y.1) ^^^ gmul y.2 x)

theorem axs_len (o x : Nat) (s : List Nat) (y : Nat × Nat) : (axs o x s y).length = s.length := by simp [axs]
theorem axf_len (o x : Nat) (l : List (Nat × Nat)) (s : List Nat) : (l.foldl (axs o x) s).length = s.length := by
  induction l generalizing s with
  | nil => rfl
  | cons y l ih => rw [List.foldl_cons, ih, axs_len]

theorem axs_bs {o x : Nat} {s : List Nat} {y : Nat × Nat} (hs : Bs s) (hy : y.2 < 256) : Bs (axs o x s y) := by
  unfold axs
  by_cases h : o + y.1 < s.length
  · intro i
    rw [cf_set _ _ _ _ h]
    split
    · exact xor_lt (hs _) (gmul_lt hy)
    · exact hs i
  · rw [List.set_eq_of_length_le (by omega)]; exact hs
theorem axf_bs {o x : Nat} {l : List (Nat × Nat)} {s : List Nat} (hs : Bs s) (hl : ∀ y ∈ l, y.2 < 256) : Bs (l.foldl (axs o x) s) := by
  induction l generalizing s with
  | nil => exact hs
  | cons y l ih => exact ih (axs_bs hs (hl y List.mem_cons_self)) (fun z hz => hl z (List.mem_cons_of_mem _ hz))

theorem cf_axf {o x : Nat} (hx : x < 256) (k : Nat) (p s : List Nat) (h : o + k + p.length ≤ s.length) (i : Nat) :
    cf ((saidL k p).foldl (axs o x) s) i = cf s i ^^^ (if o + k ≤ i then gmul (cf p (i - (o + k))) x else 0) := by
  induction p generalizing s k with
  | nil =>
    simp only [saidL, List.foldl_nil, cf_nil, zero_gmul hx]
    split <;> simp
  | cons y p ih =>
    simp only [List.length_cons] at h
    rw [saidL, List.foldl_append]
    by_cases hy : y = 0
    · subst hy
      rw [if_pos rfl, List.foldl_nil, ih (k + 1) s (by omega)]
      congr 1
      by_cases h1 : o + k ≤ i
      · rw [if_pos h1]
        by_cases h2 : i = o + k
        · rw [if_neg (by omega), h2, Nat.sub_self, cf_zero, zero_gmul hx]
        · rw [if_pos (by omega), show i - (o + k) = (i - (o + (k + 1))) + 1 from by omega, cf_succ]
      · rw [if_neg h1, if_neg (by omega)]
    · rw [if_neg hy, List.foldl_cons, List.foldl_nil, ih (k + 1) _ (by rw [axs_len]; omega), axs, cf_set _ _ _ _ (by dsimp only; omega)]
      dsimp only
      by_cases h1 : o + k ≤ i
      · rw [if_pos h1]
        by_cases h2 : i = o + k
        · rw [if_pos h2, if_neg (by omega), h2, Nat.sub_self, cf_zero, Nat.xor_zero]
        · rw [if_neg h2, if_pos (by omega), show i - (o + k) = (i - (o + (k + 1))) + 1 from by omega, cf_succ]
      · rw [if_neg h1, if_neg (by omega), if_neg (by omega)]

/-- s, and x times p added from place o on. -/
def addAt (s : List Nat) (o : Nat) (p : List Nat) (x : Nat) : List Nat := (saidL 0 p).foldl (axs o x) s
theorem addAt_len (s : List Nat) (o : Nat) (p : List Nat) (x : Nat) : (addAt s o p x).length = s.length := axf_len _ _ _ _
theorem saidL_bs {k : Nat} {p : List Nat} (hp : Bs p) : ∀ y ∈ saidL k p, y.2 < 256 := by
  induction p generalizing k with
  | nil => intro y hy; simp [saidL] at hy
  | cons z p ih =>
    intro y hy
    rw [saidL, List.mem_append] at hy
    rcases hy with hy | hy
    · split at hy
      · simp at hy
      · simp at hy; rw [hy]; exact hp.head
    · exact ih hp.tail y hy
theorem addAt_bs {s : List Nat} {o : Nat} {p : List Nat} {x : Nat} (hs : Bs s) (hp : Bs p) : Bs (addAt s o p x) := axf_bs hs (saidL_bs hp)
theorem cf_addAt {s : List Nat} {o : Nat} {p : List Nat} {x : Nat} (hx : x < 256) (h : o + p.length ≤ s.length) (i : Nat) :
    cf (addAt s o p x) i = cf s i ^^^ (if o ≤ i then gmul (cf p (i - o)) x else 0) := cf_axf hx 0 p s h i

theorem cf_zeros (n i : Nat) : cf (List.replicate n 0) i = 0 := cf_replicate n i
theorem Bs.zeros (n : Nat) : Bs (List.replicate n 0) := fun i => by rw [cf_zeros]; omega

/-- The sum, as it is made. -/
theorem add_made {a b : List Nat} (ha : Bs a) (hb : Bs b) {n : Nat} (h1 : a.length ≤ n) (h2 : b.length ≤ n) : Eqv (addAt (addAt (List.replicate n 0) 0 a 1) 0 b 1) (padd a b) := fun i => by
  rw [cf_addAt (by omega) (by rw [addAt_len, List.length_replicate]; omega), cf_addAt (by omega) (by rw [List.length_replicate]; omega), cf_zeros, if_pos (Nat.zero_le _), if_pos (Nat.zero_le _), Nat.sub_zero, gmul_one (ha i), gmul_one (hb i), cf_padd, Nat.zero_xor]

/-- The product, as it is made. -/
def mulF2 (o : List Nat) (s : List Nat) (y : Nat × Nat) : List Nat := addAt s y.1 o y.2
theorem mulF2_len (o : List Nat) (l : List (Nat × Nat)) (s : List Nat) : (l.foldl (mulF2 o) s).length = s.length := by
  induction l generalizing s with
  | nil => rfl
  | cons y l ih => rw [List.foldl_cons, ih, mulF2, addAt_len]
theorem mulF2_bs {o : List Nat} (ho : Bs o) (l : List (Nat × Nat)) {s : List Nat} (hs : Bs s) : Bs (l.foldl (mulF2 o) s) := by
  induction l generalizing s with
  | nil => exact hs
  | cons y l ih => rw [List.foldl_cons]; exact ih (addAt_bs hs ho)

theorem cf_mulF2 {o : List Nat} (ho : Bs o) (k : Nat) {p : List Nat} (hp : Bs p) (s : List Nat) (h : k + p.length + o.length ≤ s.length + 1) (i : Nat) :
    cf ((saidL k p).foldl (mulF2 o) s) i = cf s i ^^^ (if k ≤ i then cf (pmul p o) (i - k) else 0) := by
  induction p generalizing s k with
  | nil => simp [saidL, pmul]
  | cons y p ih =>
    simp only [List.length_cons] at h
    rw [saidL, List.foldl_append]
    have e : ∀ s', cf s' i = cf s i ^^^ (if k ≤ i then gmul y (cf o (i - k)) else 0) → cf s' i ^^^ (if k + 1 ≤ i then cf (pmul p o) (i - (k + 1)) else 0) = cf s i ^^^ (if k ≤ i then cf (pmul (y :: p) o) (i - k) else 0) := by
      intro s' hs'
      rw [hs', Nat.xor_assoc]
      congr 1
      by_cases h1 : k ≤ i
      · rw [if_pos h1, if_pos h1, cf_pmul_cons]
        congr 1
        by_cases h2 : i = k
        · rw [if_neg (by omega), h2, Nat.sub_self]; rfl
        · rw [if_pos (by omega), show i - k = (i - (k + 1)) + 1 from by omega, cf_succ]
      · rw [if_neg h1, if_neg h1, if_neg (by omega)]; rfl
    by_cases hy : y = 0
    · subst hy
      rw [if_pos rfl, List.foldl_nil, ih (k + 1) hp.tail s (by omega)]
      refine e s ?_
      split
      · rw [zero_gmul (ho _), Nat.xor_zero]
      · rw [Nat.xor_zero]
    · rw [if_neg hy, List.foldl_cons, List.foldl_nil, ih (k + 1) hp.tail _ (by rw [mulF2, addAt_len]; omega)]
      refine e _ ?_
      rw [mulF2, cf_addAt hp.head (by dsimp only; omega)]
      dsimp only
      split
      · rw [gmul_comm (ho _) hp.head]
      · rfl

theorem mul_made {a b : List Nat} (ha : Bs a) (hb : Bs b) {m n : Nat} (hm : (trim a).length = m + 1) (hn : (trim b).length = n + 1) :
    (saidL 0 (trim a)).foldl (mulF2 (trim b)) (List.replicate (m + n + 1) 0) = trim (pmul a b) := by
  have e : Eqv ((saidL 0 (trim a)).foldl (mulF2 (trim b)) (List.replicate (m + n + 1) 0)) (pmul a b) := fun i => by
    rw [cf_mulF2 hb.trim 0 ha.trim _ (by rw [List.length_replicate]; omega), cf_zeros, Nat.zero_xor, if_pos (Nat.zero_le _), Nat.sub_zero]
    exact (pmul_left ha.trim hb.trim (cf_trim a)).trans (pmul_right a (cf_trim b)) i
  refine eq_of_cf ?_ (e.trans (cf_trim _).symm)
  rw [mulF2_len, List.length_replicate, trim_pmul_len ha hb hm hn]

/-- The value, as it is made. -/
def hor (x v : Nat) (y : Nat × Nat) : Nat := gmul v x ^^^ y.2
theorem hor_down (s : List Nat) (x : Nat) : ∀ (i : Nat), i ≤ s.length → ∀ v, v = ev (s.drop i) x → (downL s i).foldl (hor x) v = ev s x := by
  intro i
  induction i with
  | zero => intro _ v hv; rw [hv]; rfl
  | succ i ih =>
    intro hi v hv
    rw [downL, List.foldl_cons]
    refine ih (by omega) _ ?_
    rw [hor, hv]
    exact (ev_drop (by omega)).symm
theorem ev_made (s : List Nat) (x : Nat) : (downL s s.length).foldl (hor x) 0 = ev s x := hor_down s x s.length (Nat.le_refl _) 0 (by simp [ev])

/-- Quotient and rest, as they are made: one place more. -/
def divF (d : List Nat) (t inv : Nat) (qr : List Nat × List Nat) (i : Nat) : List Nat × List Nat :=
  (qr.1.set i (gmul (cf qr.2 (i + t)) inv), addAt qr.2 i d (gmul (cf qr.2 (i + t)) inv))
theorem divF_len1 (d : List Nat) (t inv : Nat) (l : List Nat) (qr : List Nat × List Nat) : (l.foldl (divF d t inv) qr).1.length = qr.1.length := by
  induction l generalizing qr with
  | nil => rfl
  | cons y l ih => rw [List.foldl_cons, ih]; simp [divF]
theorem divF_len2 (d : List Nat) (t inv : Nat) (l : List Nat) (qr : List Nat × List Nat) : (l.foldl (divF d t inv) qr).2.length = qr.2.length := by
  induction l generalizing qr with
  | nil => rfl
  | cons y l ih => rw [List.foldl_cons, ih]; simp [divF, addAt_len]
theorem divF_bs {d : List Nat} (hd : Bs d) (t : Nat) {inv : Nat} (l : List Nat) {qr : List Nat × List Nat} (h1 : Bs qr.1) (h2 : Bs qr.2) : Bs (l.foldl (divF d t inv) qr).1 ∧ Bs (l.foldl (divF d t inv) qr).2 := by
  induction l generalizing qr with
  | nil => exact ⟨h1, h2⟩
  | cons y l ih =>
    rw [List.foldl_cons]
    refine ih ?_ (addAt_bs h2 hd)
    intro i
    simp only [divF]
    by_cases h : y < qr.1.length
    · rw [cf_set _ _ _ _ h]
      split
      · exact gmul_lt (h2 _)
      · exact h1 i
    · rw [List.set_eq_of_length_le (by omega)]; exact h1 i

/-- What holds while the places from k on are done. -/
structure DivI (a d : List Nat) (t N k : Nat) (q r : List Nat) : Prop where
  bq : Bs q
  br : Bs r
  lq : q.length = N
  eq : Eqv (padd (pmul q d) r) a
  top : ∀ i, k + t ≤ i → cf r i = 0
  low : ∀ i, i < k → cf q i = 0
  last : k < N → cf q (N - 1) ≠ 0
  first : k = N → r = trim a

theorem div_down {a d : List Nat} {t N inv : Nat} (ha : Bs a) (hd : Bs d) (hl : d.length = t + 1) (h0 : cf d t ≠ 0) (hinv : inv = pw (cf d t) (-1)) (hN : N + t = (trim a).length) :
    ∀ (k : Nat), k ≤ N → ∀ q r, r.length = (trim a).length → DivI a d t N k q r → DivI a d t N 0 ((downN k).foldl (divF d t inv) (q, r)).1 ((downN k).foldl (divF d t inv) (q, r)).2 := by
  intro k
  induction k with
  | zero => intro _ q r _ h; exact h
  | succ k ih =>
    intro hk q r hr h
    rw [downN, List.foldl_cons]
    have hi : inv < 256 := by rw [hinv]; exact pw_lt _ _
    have hc : gmul (cf r (k + t)) inv < 256 := gmul_lt (h.br _)
    have hadd : ∀ i, cf (addAt r k d (gmul (cf r (k + t)) inv)) i = cf r i ^^^ (if k ≤ i then gmul (gmul (cf r (k + t)) inv) (cf d (i - k)) else 0) := fun i => by
      rw [cf_addAt hc (by omega)]
      split
      · rw [gmul_comm (hd _) hc]
      · rfl
    have hset : ∀ i, cf (q.set k (gmul (cf r (k + t)) inv)) i = if i = k then gmul (cf r (k + t)) inv else cf q i := fun i => cf_set _ _ _ _ (by rw [h.lq]; omega)
    have hinv1 : gmul (cf d t) inv = 1 := by rw [hinv]; exact gmul_inv (hd t) h0
    refine ih (by omega) _ _ (by simp only [addAt_len]; exact hr) ?_
    refine ⟨?_, addAt_bs h.br hd, by simp [h.lq], div_step hd h.bq hc h.eq (h.low k (by omega)) hset hadd, ?_, ?_, ?_, fun e => by omega⟩
    · intro i; rw [hset]; split
      · exact hc
      · exact h.bq i
    · intro i hi2
      rw [hadd, if_pos (by omega)]
      by_cases e : i = k + t
      · rw [e, Nat.add_sub_cancel_left, gmul_assoc (h.br _) hi (hd t), gmul_comm hi (hd t), hinv1, gmul_one (h.br _), Nat.xor_self]
      · rw [h.top i (by omega), cf_ge (p := d) (by omega), gmul_zero]; rfl
    · intro i hi2
      rw [hset, if_neg (by omega)]
      exact h.low i (by omega)
    · intro hkN
      rw [hset]
      by_cases e : k + 1 = N
      · rw [if_pos (by omega), h.first e]
        have hne : trim a ≠ [] := by intro e2; rw [e2] at hN; simp at hN; omega
        have := trim_last hne
        rw [← cf_trim a, show (trim a).length - 1 = k + t from by omega] at this
        refine gmul_ne (ha.trim _) hi this ?_
        intro e3
        rw [e3, gmul_zero] at hinv1
        omega
      · rw [if_neg (by omega)]
        exact h.last (by omega)

theorem DivI.isDiv {a b q r : List Nat} {t N : Nat} (hl : (trim b).length = t + 1) (h : DivI a (trim b) t N 0 q r) : IsDiv a b q (trim r) := by
  refine ⟨trim_self ?_, trim_trim r, h.bq, h.br.trim, ?_, ?_⟩
  · by_cases h0 : N = 0
    · left; exact List.eq_nil_of_length_eq_zero (by rw [h.lq, h0])
    · right; rw [h.lq]; exact h.last (by omega)
  · have := trim_short (p := r) (n := t) (fun i hi => h.top i (by omega))
    omega
  · intro i
    rw [← h.eq i, cf_padd, cf_padd, cf_trim r i, pmul_right q (cf_trim b) i]

theorem div_made {a b : List Nat} {t N : Nat} (ha : Bs a) (hb : Bs b) (hl : (trim b).length = t + 1) (hN : N = (trim a).length - t) :
    IsDiv a b ((downN N).foldl (divF (trim b) t (pw (cf (trim b) t) (-1))) (List.replicate N 0, trim a)).1 (trim ((downN N).foldl (divF (trim b) t (pw (cf (trim b) t) (-1))) (List.replicate N 0, trim a)).2) := by
  have hne : trim b ≠ [] := by intro e; rw [e] at hl; simp at hl
  have h0 : cf (trim b) t ≠ 0 := by
    have := trim_last hne
    rwa [← cf_trim b, hl, Nat.add_sub_cancel] at this
  have z : Eqv (padd (pmul (List.replicate N 0) (trim b)) (trim a)) a := fun i => by
    have : cf (pmul (List.replicate N 0) (trim b)) i = 0 := by
      rw [pmul_comm (Bs.zeros N) hb.trim i, pmul_right (trim b) (q' := []) (fun j => cf_zeros N j) i, pmul_nil]
    rw [cf_padd, this, Nat.zero_xor, cf_trim a i]
  by_cases hs : N + t = (trim a).length
  · exact DivI.isDiv hl (div_down ha hb.trim hl h0 rfl hs N (Nat.le_refl _) _ _ rfl ⟨Bs.zeros N, ha.trim, by simp, z, fun i hi => cf_ge (by omega), fun i _ => cf_zeros N i, fun h => by omega, fun _ => rfl⟩)
  · have hN0 : N = 0 := by omega
    subst hN0
    exact DivI.isDiv (N := 0) hl ⟨Bs.zeros 0, ha.trim, by rfl, z, fun i hi => cf_ge (by simp only [downN, List.foldl_nil]; omega), fun i hi => by omega, fun h => by omega, fun _ => rfl⟩

/-- n doubled, modulo 255, till it is start again. -/
def orbF : Nat → Nat → Nat → List Nat
  | 0, _, _ => []
  | k + 1, st, m => m :: (if 2 * m % 255 = st then [] else orbF k st (2 * m % 255))
def orb (n : Nat) : List Nat := orbF 8 n n

/-- One factor more. -/
def minF (p : List Nat) (m : Nat) : List Nat := trim (pmul p [E m, 1])
def minP (n : Nat) : List Nat := (orb n).foldl minF [1]


end Go.Proofs.YtjdikhelabibnabGreat
