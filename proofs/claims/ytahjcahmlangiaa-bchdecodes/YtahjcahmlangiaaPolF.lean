/-
  Encoding by division, mending by syndromes, without the program.
-/
import Derived.Test.YtahjcahmlangiaaPolE
namespace Go.Proofs.Ytahjcahmlangiaa

theorem ev_sh (m : Nat) {p : List Nat} (hp : Bs p) {x : Nat} (hx : x < 256) : ev (sh m p) x = gmul (gp x m) (ev p x) := by
  induction m with
  | zero => exact (one_gmul (ev_lt hp)).symm
  | succ m ih =>
    have h1 := ev_lt (x := x) hp
    have h2 := gp_lt x m
    rw [show sh (m + 1) p = 0 :: sh m p from rfl, ev, Nat.xor_zero, ih, gp, gmul_assoc h2 h1 hx, gmul_assoc h2 hx h1, gmul_comm h1 hx]

/-- A bit turned, if c says so. -/
def tog (w : List Nat) (k c : Nat) : List Nat := w.set (k / 8) (cf w (k / 8) ^^^ c * 2 ^ (k % 8))
theorem tog_len (w : List Nat) (k c : Nat) : (tog w k c).length = w.length := by simp [tog]
theorem tog_eq {w : List Nat} {k c : Nat} (hc : c ≤ 1) : tog w k c = if c = 0 then w.set (k / 8) (cf w (k / 8)) else flip1 w k := by
  have : c = 0 ∨ c = 1 := by omega
  rcases this with rfl | rfl
  · simp [tog]
  · simp [tog, flip1]
theorem wb_tog {w : List Nat} {k c : Nat} (hk : k < 8 * w.length) (hc : c ≤ 1) (i : Nat) : cf (wb (tog w k c)) i = cf (wb w) i ^^^ (if i = k then c else 0) := by
  rw [tog_eq hc]
  have : c = 0 ∨ c = 1 := by omega
  rcases this with rfl | rfl
  · rw [if_pos rfl, cf_wb, cf_wb, cf_set _ _ _ _ (by omega)]
    by_cases h : i / 8 = k / 8
    · rw [if_pos h, h]; simp
    · rw [if_neg h]; simp
  · rw [if_neg (by omega)]
    exact wb_flip1 hk i
theorem tog_bs {w : List Nat} (h : Bs w) {k c : Nat} (hc : c ≤ 1) : Bs (tog w k c) := by
  rw [tog_eq hc]
  split
  · by_cases hk : k / 8 < w.length
    · intro i
      rw [cf_set _ _ _ _ hk]
      split
      · exact h _
      · exact h i
    · rw [List.set_eq_of_length_le (by omega)]; exact h
  · exact flip1_bs h k

theorem gRoots_first {e : Nat} (h1 : 1 ≤ e) (h8 : e ≤ 8) : e ∈ gRoots := by
  rw [gRoots_eq]
  have : e = 1 ∨ e = 2 ∨ e = 3 ∨ e = 4 ∨ e = 5 ∨ e = 6 ∨ e = 7 ∨ e = 8 := by omega
  rcases this with rfl | rfl | rfl | rfl | rfl | rfl | rfl | rfl <;> simp

/-- A multiple of the generator taken away leaves the syndromes. -/
theorem syn_gen {v w : List Nat} {m : Nat} (h : ∀ i, cf (wb w) i = cf (wb v) i ^^^ cf (sh m genP) i) {e : Nat} (h1 : 1 ≤ e) (h8 : e ≤ 8) : syn w e = syn v e := by
  unfold syn
  rw [ev_congr (E_lt e) (q := padd (wb v) (sh m genP)) (fun i => by rw [h i, cf_padd]), ev_padd (wb_bin v).bs (Bs.sh genP_bin.bs) (E_lt e), ev_sh m genP_bin.bs (E_lt e), genP_roots e (gRoots_first h1 h8), gmul_zero, Nat.xor_zero]

/-- What is left by dividing stands ahead of the data. -/
theorem enc_made {d rest : List Nat} (hd : Bs d) (hl : d.length = 24) (hr : Bs rest) (hrl : rest.length = 28) (hs : ∀ e, 1 ≤ e → e ≤ 8 → syn rest e = syn (List.replicate 4 0 ++ d) e) (hz : ∀ i, 32 ≤ i → cf (wb rest) i = 0) : IsEnc d (rest.take 4 ++ d) := by
  have hlen : (rest.take 4 ++ d).length = 28 := by rw [List.length_append, List.length_take, hrl, hl]; rfl
  have hrz : ∀ j, 4 ≤ j → cf rest j = 0 := fun j hj => by
    refine bt_ext (hr j) (by omega) (fun k hk => ?_)
    have := hz (8 * j + k) (by omega)
    rw [cf_wb, show (8 * j + k) / 8 = j from by omega, show (8 * j + k) % 8 = k from by omega] at this
    rw [this]
    simp [bt]
  have e : Eqv (rest.take 4 ++ d) (padd (List.replicate 4 0 ++ d) rest) := fun j => by
    rw [cf_padd, cf_append, cf_append, List.length_take, hrl, List.length_replicate]
    by_cases h : j < 4
    · rw [if_pos (by simpa using h), if_pos h, cf_take, if_pos h, cf_replicate, Nat.zero_xor]
    · rw [if_neg (by simpa using h), if_neg h, hrz j (by omega), Nat.xor_zero]
      rfl
  have hb : Bs (List.replicate 4 0 ++ d) := fun i => by
    rw [cf_append]
    split
    · rw [cf_replicate]; omega
    · exact hd _
  refine ⟨⟨hlen, (hb.padd hr).eqv e.symm, fun k h1 h8 => ?_⟩, ?_⟩
  · have : syn (rest.take 4 ++ d) k = syn (padd (List.replicate 4 0 ++ d) rest) k := ev_congr (E_lt k) (fun i => by rw [cf_wb, cf_wb, e])
    rw [this, syn_xor, hs k h1 h8, Nat.xor_self]
  · rw [List.drop_left' (by rw [List.length_take, hrl]; rfl)]

/-- The places l tell these syndromes. -/
structure Good (S : Nat → Nat) (l : List Nat) : Prop where
  nd : l.Nodup
  lt : ∀ k ∈ l, k < 224
  eq : ∀ e, 1 ≤ e → e ≤ 8 → xsum (fun k => E (k * e)) l = S e

def ZeroS (S : Nat → Nat) : Prop := ∀ e, 1 ≤ e → e ≤ 8 → S e = 0
/-- Syndromes, with a bit at a place turned. -/
def tS (S : Nat → Nat) (k : Nat) : Nat → Nat := fun e => S e ^^^ E (k * e)

theorem good_nil {S : Nat → Nat} : Good S [] ↔ ZeroS S := ⟨fun h e h1 h8 => (h.eq e h1 h8).symm, fun h => ⟨List.nodup_nil, by simp, fun e h1 h8 => (h e h1 h8).symm⟩⟩

theorem good_cons {S : Nat → Nat} {k : Nat} {l : List Nat} (hk : k < 224) (hn : k ∉ l) : Good S (k :: l) ↔ Good (tS S k) l := by
  constructor
  · intro h
    refine ⟨(List.nodup_cons.1 h.nd).2, fun j hj => h.lt j (List.mem_cons_of_mem _ hj), fun e h1 h8 => ?_⟩
    unfold tS
    rw [← h.eq e h1 h8, xsum_cons, Nat.xor_comm, ← Nat.xor_assoc, Nat.xor_self, Nat.zero_xor]
  · intro h
    refine ⟨List.nodup_cons.2 ⟨hn, h.nd⟩, fun j hj => ?_, fun e h1 h8 => ?_⟩
    · rcases List.mem_cons.1 hj with rfl | hj
      · exact hk
      · exact h.lt j hj
    · rw [xsum_cons, h.eq e h1 h8]
      unfold tS
      rw [Nat.xor_comm (S e), ← Nat.xor_assoc, Nat.xor_self, Nat.zero_xor]

theorem good_perm {S : Nat → Nat} {l m : List Nat} (hp : l.Perm m) (h : Good S l) : Good S m :=
  ⟨hp.nodup_iff.1 h.nd, fun k hk => h.lt k (hp.mem_iff.2 hk), fun e h1 h8 => by rw [← xsum_perm hp]; exact h.eq e h1 h8⟩

theorem tS_twice (S : Nat → Nat) (k e : Nat) : tS (tS S k) k e = S e := by unfold tS; rw [Nat.xor_assoc, Nat.xor_self, Nat.xor_zero]
theorem tS_comm (S : Nat → Nat) (j k e : Nat) : tS (tS S j) k e = tS (tS S k) j e := by unfold tS; rw [Nat.xor_assoc, Nat.xor_assoc, Nat.xor_comm (E (j * e))]

/-- One place, as it is found. -/
theorem single_good {S : Nat → Nat} (hl : L (S 1) < 224) (hz : ZeroS (tS S (L (S 1)))) : Good S [L (S 1)] := (good_cons hl (by simp)).2 (good_nil.2 hz)
theorem single_find {S : Nat → Nat} {j : Nat} (h : Good S [j]) : S 1 ≠ 0 ∧ L (S 1) = j ∧ ZeroS (tS S j) := by
  have hj := h.lt j (by simp)
  have h1 := h.eq 1 (by omega) (by omega)
  rw [xsum_cons, xsum_nil, Nat.xor_zero, Nat.mul_one] at h1
  refine ⟨by rw [← h1]; have := E_ne j; omega, by rw [← h1]; exact L_E (by omega), good_nil.1 ((good_cons hj (by simp)).1 h)⟩

/-- Two places, as they are found. -/
theorem pair_good {S : Nat → Nat} {i : Nat} (hi : i < 224) (h0 : ¬ ZeroS S) {k : Nat} (h : Good (tS S i) [k]) : Good S [i, k] := by
  refine (good_cons hi ?_).2 h
  intro hm
  have e := List.mem_singleton.1 hm
  subst e
  refine h0 (fun e h1 h8 => ?_)
  have := (single_find h).2.2 e h1 h8
  rwa [tS_twice] at this
theorem pair_find {S : Nat → Nat} {i k : Nat} (h : Good S [i, k]) : Good (tS S i) [k] := (good_cons (h.lt i (by simp)) (by have := (List.nodup_cons.1 h.nd).1; exact this)).1 h

/-- Three places, as they are found. -/
theorem three_good {S : Nat → Nat} {i j x : Nat} (hi : i < 224) (hj : j < 224) (hx : x < 224) (hij : i ≠ j) (h1 : ∀ k, ¬ Good S [k]) (h : ZeroS (tS (tS (tS S i) j) x)) : Good S [i, j, x] := by
  have hxj : j ≠ x := fun e => by
    subst e
    exact h1 i ((good_cons hi (by simp)).2 (good_nil.2 (fun e k1 k8 => by have := h e k1 k8; rwa [tS_twice] at this)))
  have hxi : i ≠ x := fun e => by
    subst e
    refine h1 j ((good_cons hj (by simp)).2 (good_nil.2 (fun e k1 k8 => ?_)))
    have := h e k1 k8
    rw [tS_comm] at this
    unfold tS at this ⊢
    rwa [Nat.xor_assoc (S e), Nat.xor_self, Nat.xor_zero] at this
  exact (good_cons hi (by simp [hij, hxi])).2 ((good_cons hj (by simp [hxj])).2 ((good_cons hx (by simp)).2 (good_nil.2 h)))
theorem three_find {S : Nat → Nat} {i j x : Nat} (h : Good S [i, j, x]) : ZeroS (tS (tS (tS S i) j) x) ∧ tS S i 1 ≠ E j ∧ L (tS S i 1 ^^^ E j) = x := by
  obtain ⟨n1, n2⟩ := List.nodup_cons.1 h.nd
  obtain ⟨n3, _⟩ := List.nodup_cons.1 n2
  have h1 := (good_cons (h.lt i (by simp)) n1).1 h
  have h2 := (good_cons (h.lt j (by simp)) n3).1 h1
  obtain ⟨k1, k2, k3⟩ := single_find h2
  have e : tS (tS S i) j 1 = tS S i 1 ^^^ E j := by
    show tS S i 1 ^^^ E (j * 1) = _
    rw [Nat.mul_one]
  rw [e] at k1 k2
  exact ⟨k3, fun e => k1 (by rw [e, Nat.xor_self]), k2⟩
/-- Three places may be taken up in rising order. -/
theorem three_rise {S : Nat → Nat} {l : List Nat} (h : Good S l) (hl : l.length = 3) : ∃ i j x, i < j ∧ Good S [i, j, x] := by
  match l, hl with
  | [a, b, c], _ =>
    have hn := h.nd
    simp at hn
    by_cases hab : a < b
    · exact ⟨a, b, c, hab, h⟩
    · exact ⟨b, a, c, by omega, good_perm (List.Perm.swap b a [c]) h⟩

theorem syn_flip1 {w : List Nat} {k : Nat} (hk : k < 8 * w.length) (e : Nat) : syn (flip1 w k) e = syn w e ^^^ E (k * e) := by
  unfold syn
  have h1 : Bs [1] := Bs.cons (by omega) Bs.nil
  have he : ev [1] (E e) = 1 := by
    have : ev [1] (E e) = gmul 0 (E e) ^^^ 1 := rfl
    rw [this, zero_gmul (E_lt e), Nat.zero_xor]
  rw [ev_congr (E_lt e) (q := padd (wb w) (sh k [1])) (fun i => by
    rw [wb_flip1 hk, cf_padd, cf_sh]
    congr 1
    by_cases h : i = k
    · subst h; simp
    · rw [if_neg h]
      split
      · rfl
      · obtain ⟨j, hj⟩ : ∃ j, i - k = j + 1 := ⟨i - k - 1, by omega⟩
        rw [hj]; rfl), ev_padd (wb_bin w).bs (Bs.sh h1) (E_lt e), ev_sh k h1 (E_lt e), he, gmul_one (gp_lt _ _), gp_E, Nat.mul_comm]
theorem syn_flips {w l : List Nat} (hl : ∀ k ∈ l, k < 8 * w.length) (e : Nat) : syn (flips w l) e = syn w e ^^^ xsum (fun k => E (k * e)) l := by
  induction l generalizing w with
  | nil => simp [flips]
  | cons k l ih => rw [flips, List.foldl_cons, ← flips, ih (fun j hj => by rw [flip1_len]; exact hl j (List.mem_cons_of_mem _ hj)), syn_flip1 (hl k List.mem_cons_self), xsum_cons, Nat.xor_assoc]

/-- Where places tell a word's syndromes, with these turned it is a codeword. -/
theorem Good.code {w l : List Nat} (hl : w.length = 28) (hb : Bs w) (h : Good (syn w) l) : Code (flips w l) :=
  ⟨by rw [flips_len, hl], flips_bs hb l, fun e h1 h8 => by rw [syn_flips (fun k hk => by rw [hl]; exact h.lt k hk), h.eq e h1 h8, Nat.xor_self]⟩
/-- The places where a codeword differs tell a word's syndromes. -/
theorem code_good {v w : List Nat} (hv : Code v) (hl : w.length = 28) : Good (syn w) (diff w v) := by
  have hpl : (padd w v).length = 28 := by rw [padd_len (by rw [hl, hv.len]), hl]
  refine ⟨diff_nodup _ _, fun k hk => ?_, fun e h1 h8 => ?_⟩
  · have hm := (ones_mem.1 hk).2
    by_cases h : k < 224
    · exact h
    · rw [Nat.sub_zero, cf_ge (by rw [wb_len, hpl]; omega)] at hm
      exact absurd rfl hm
  · show xsum _ (ones 0 (wb (padd w v))) = _
    rw [← syn_ones', syn_xor, hv.syn e h1 h8, Nat.xor_zero]

/-- With the places turned where it differs, a word is the other one. -/
theorem flips_diff {v w : List Nat} (hv : Bs v) (hw : Bs w) (hl : w.length = v.length) : flips w (diff w v) = v := by
  have hlt : ∀ k ∈ diff w v, k < 8 * w.length := fun k hk => by
    have hm := (ones_mem.1 hk).2
    by_cases h : k < 8 * w.length
    · exact h
    · rw [Nat.sub_zero, cf_ge (by rw [wb_len, padd_len hl]; omega)] at hm
      exact absurd rfl hm
  refine eq_of_cf (by rw [flips_len, hl]) (wb_ext (flips_bs hw _) hv (fun i => ?_))
  rw [wb_flips hlt (diff_nodup _ _)]
  by_cases h : i ∈ diff w v
  · rw [if_pos h]
    have hne := diff_mem.1 h
    have h1 := wb_bin w i
    have h2 := wb_bin v i
    have : (cf (wb w) i = 0 ∧ cf (wb v) i = 1) ∨ (cf (wb w) i = 1 ∧ cf (wb v) i = 0) := by omega
    rcases this with ⟨a, b⟩ | ⟨a, b⟩ <;> rw [a, b] <;> rfl
  · rw [if_neg h, Nat.xor_zero]
    by_cases e : cf (wb w) i = cf (wb v) i
    · exact e
    · exact absurd (diff_mem.2 e) h

/-- What is told of a word: the places (three at most) of a codeword that is near, or that there is none. -/
inductive Told (w : List Nat) : Option (List Nat) → Prop
  | near (l : List Nat) : Good (syn w) l → l.length ≤ 3 → Told w (some l)
  | far : (∀ l, Good (syn w) l → 4 ≤ l.length) → Told w none

/-- It is told in one way: the same codeword, as many bits. -/
theorem Told.once {w : List Nat} (hl : w.length = 28) (hb : Bs w) {a b : Option (List Nat)} (ha : Told w a) (hb2 : Told w b) : (a = none ∧ b = none) ∨ ∃ l m, a = some l ∧ b = some m ∧ flips w l = flips w m ∧ l.length = m.length := by
  have lt : ∀ {l}, Good (syn w) l → ∀ k ∈ l, k < 8 * w.length := fun h k hk => by rw [hl]; exact h.lt k hk
  cases ha with
  | near l h1 h2 =>
    cases hb2 with
    | near m k1 k2 =>
      refine .inr ⟨l, m, rfl, rfl, ?_⟩
      have e : flips w l = flips w m := near_once (u := w) (h1.code hl hb) (k1.code hl hb) (by rw [diff_flips_len (lt h1) h1.nd]; exact h2) (by rw [diff_flips_len (lt k1) k1.nd]; exact k2)
      refine ⟨e, ?_⟩
      rw [← diff_flips_len (lt h1) h1.nd, e, diff_flips_len (lt k1) k1.nd]
    | far k => have := k l h1; omega
  | far h =>
    cases hb2 with
    | near m k1 k2 => have := h m k1; omega
    | far k => exact .inl ⟨rfl, rfl⟩

end Go.Proofs.Ytahjcahmlangiaa
