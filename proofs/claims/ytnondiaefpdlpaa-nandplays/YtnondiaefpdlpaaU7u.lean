/-
  Both tellings of nand, by what they answer and what they become.
-/
import Derived.Test.YtnondiaefpdlpaaU7h
namespace Go.Proofs.Ytnondiaefpdlpaa
open Go.RowKit Go.Shelf

instance (s : Nd) (d b p : Int) : Decidable (s.Good d b p) := by unfold Nd.Good; infer_instance
def Nd.pOk (s : Nd) (d b p : Int) (n : Nat) : Prop := s.Good d b p ∧ (s.next d.toNat b.toNat : Int) = p ∧ n = 60
instance (s : Nd) (d b p : Int) (n : Nat) : Decidable (s.pOk d b p n) := by unfold Nd.pOk; infer_instance
def Nd.pAns (s : Nd) (d b p : Int) (n : Nat) : Int := if s.dead = true then 8 else if s.pOk d b p n then s.err else 1
def Nd.pNext (s : Nd) (d b p : Int) (x : List Nat) : Nd := if s.dead = true then s else if s.pOk d b p x.length then s.progd d.toNat b.toNat p.toNat x else { s with wrong := inc s.wrong }
def Nd.eOk (s : Nd) (d b : Int) : Prop := s.There d b ∧ s.bad d.toNat b.toNat = false
instance (s : Nd) (d b : Int) : Decidable (s.eOk d b) := by unfold Nd.eOk; infer_instance
def Nd.eAns (s : Nd) (d b : Int) : Int := if s.dead = true then 8 else if s.eOk d b then s.err else 1
def Nd.eNext (s : Nd) (d b : Int) : Nd := if s.dead = true then s else if s.eOk d b then s.erased d.toNat b.toNat else { s with wrong := inc s.wrong }
def Nd.rAns (s : Nd) (d b p : Int) : Int := if s.dead = true then 8 else if s.Good d b p then 0 else 1
def Nd.rVal (s : Nd) (d b p : Int) : List Nat := if s.dead = true then [] else if s.Good d b p then flipZ (s.held d.toNat b.toNat p.toNat) (s.noise d.toNat b.toNat p.toNat) else []
def Nd.rNext (s : Nd) (d b p : Int) : Nd := if s.dead = true then s else if s.Good d b p then { s with ops := inc s.ops } else { s with wrong := inc s.wrong }
def Nd.nOk (s : Nd) (d b p : Int) : Prop := s.There d b ∧ 0 ≤ p ∧ p < (s.P : Int)
instance (s : Nd) (d b p : Int) : Decidable (s.nOk d b p) := by unfold Nd.nOk; infer_instance
def Nd.nAns (s : Nd) (d b p : Int) : Int := if s.nOk d b p then 0 else 1
def Nd.nNext (s : Nd) (d b p : Int) (zs : List Int) : Nd := if s.nOk d b p then { s with noise := put3 s.noise d.toNat b.toNat p.toNat zs } else s

/-- The same shelves. -/
def Nd.Geo (s t : Nd) : Prop := t.D = s.D ∧ t.B = s.B ∧ t.P = s.P
theorem Geo.refl (s : Nd) : s.Geo s := ⟨rfl, rfl, rfl⟩
theorem Geo.trans {s t u : Nd} (h : s.Geo t) (k : t.Geo u) : s.Geo u := ⟨k.1.trans h.1, k.2.1.trans h.2.1, k.2.2.trans h.2.2⟩
theorem geo_p (s : Nd) (d b p : Int) (x : List Nat) : s.Geo (s.pNext d b p x) := by
  unfold Nd.pNext
  split
  · exact Geo.refl s
  · split
    · exact ⟨rfl, rfl, rfl⟩
    · exact ⟨rfl, rfl, rfl⟩
theorem geo_e (s : Nd) (d b : Int) : s.Geo (s.eNext d b) := by
  unfold Nd.eNext
  split
  · exact Geo.refl s
  · split
    · exact ⟨rfl, rfl, rfl⟩
    · exact ⟨rfl, rfl, rfl⟩
theorem geo_r (s : Nd) (d b p : Int) : s.Geo (s.rNext d b p) := by
  unfold Nd.rNext
  split
  · exact Geo.refl s
  · split
    · exact ⟨rfl, rfl, rfl⟩
    · exact ⟨rfl, rfl, rfl⟩
theorem geo_n (s : Nd) (d b p : Int) (zs : List Int) : s.Geo (s.nNext d b p zs) := by
  unfold Nd.nNext
  split
  · exact ⟨rfl, rfl, rfl⟩
  · exact Geo.refl s
theorem rVal_bs {s : Nd} (h : s.Ok) (d b p : Int) : Bs (s.rVal d b p) := by
  unfold Nd.rVal
  split
  · exact Bs.nil
  · split
    · exact flipZ_bs (h.bs _ _ _) _
    · exact Bs.nil
theorem dead_not {s : Nd} (h : ¬ s.dead = true) : s.dead = false := by simpa using h

theorem prog_u {m : Nat} {w : World} {L : La} {s : Nd} (h : NA m w L s) (d b p : Int) (ao : Option Addr) (n c g : Nat) (x : List Nat) (hX : Arg w (.slice ao n c) g x) (hs : Sfe m w g x) :
    Calls Try.prog 22 #[.pointer (some ⟨L.n, 0, none⟩), .int .i64 d, .int .i64 b, .int .i64 p, .slice ao n c] w fun e w' => e = .returned (.int .i64 (s.pAns d b p n)) ∧ (∃ L', L'.n = L.n ∧ NA m w' L' (s.pNext d b p x)) ∧ Kn m w w' := by
  have hn : x.length = n := hX.nil_imp.1
  by_cases hd : s.dead = true
  · refine (prog_dead h hd d b p _).mono ?_
    rintro e w' ⟨rfl, rfl⟩
    exact ⟨by rw [Nd.pAns, if_pos hd], ⟨L, rfl, by rw [Nd.pNext, if_pos hd]; exact h⟩, Kn.refl _ _⟩
  · by_cases hk : s.pOk d b p n
    · obtain ⟨d, rfl⟩ := Int.eq_ofNat_of_zero_le hk.1.1.1.1.1
      obtain ⟨b, rfl⟩ := Int.eq_ofNat_of_zero_le hk.1.1.1.2.1
      obtain ⟨p, rfl⟩ := Int.eq_ofNat_of_zero_le hk.1.2.1
      have h1 := hk.1.1.1.1.2
      have h2 := hk.1.1.1.2.2
      have h3 := hk.1.2.2
      have h4 : (s.next d b : Int) = (p : Int) := hk.2.1
      refine (prog_good (d := d) (b := b) (p := p) h (dead_not hd) (by omega) (by omega) hk.1.1.2 (by omega) (by omega) _ g x hX hs (hn.trans hk.2.2)).mono ?_
      rintro e w' ⟨rfl, hL, hK⟩
      exact ⟨by rw [Nd.pAns, if_neg hd, if_pos hk], by rw [Nd.pNext, if_neg hd, hn, if_pos hk]; exact hL, hK⟩
    · refine (prog_bad h (dead_not hd) d b p ao n c hk).mono ?_
      rintro e w' ⟨rfl, hN, hK⟩
      exact ⟨by rw [Nd.pAns, if_neg hd, if_neg hk], ⟨L, rfl, by rw [Nd.pNext, if_neg hd, hn, if_neg hk]; exact hN⟩, hK⟩
theorem rprog_u {m : Nat} {w : World} {L : Lr} {s : Nd} (h : RA m w L s) (d b p : Int) (ao : Option Addr) (n c g : Nat) (x : List Nat) (hX : Arg w (.slice ao n c) g x) (hs : Sfe m w g x) :
    Calls Try.prog 38 #[.pointer (some ⟨L.n, 0, none⟩), .int .i64 d, .int .i64 b, .int .i64 p, .slice ao n c] w fun e w' => e = .returned (.int .i64 (s.pAns d b p n)) ∧ (∃ L', L'.n = L.n ∧ RA m w' L' (s.pNext d b p x)) ∧ Kr m w w' := by
  have hn : x.length = n := hX.nil_imp.1
  by_cases hd : s.dead = true
  · refine (rprog_dead h hd d b p _ _ _).mono ?_
    rintro e w' ⟨rfl, rfl⟩
    exact ⟨by rw [Nd.pAns, if_pos hd], ⟨L, rfl, by rw [Nd.pNext, if_pos hd]; exact h⟩, Kr.refl _ _⟩
  · by_cases hk : s.pOk d b p n
    · obtain ⟨d, rfl⟩ := Int.eq_ofNat_of_zero_le hk.1.1.1.1.1
      obtain ⟨b, rfl⟩ := Int.eq_ofNat_of_zero_le hk.1.1.1.2.1
      obtain ⟨p, rfl⟩ := Int.eq_ofNat_of_zero_le hk.1.2.1
      have h1 := hk.1.1.1.1.2
      have h2 := hk.1.1.1.2.2
      have h3 := hk.1.2.2
      have h4 : (s.next d b : Int) = (p : Int) := hk.2.1
      have h5 : n = 60 := hk.2.2
      subst h5
      refine (rprog_good (d := d) (b := b) (p := p) h (dead_not hd) (by omega) (by omega) hk.1.1.2 (by omega) (by omega) ao c g x hX hs).mono ?_
      rintro e w' ⟨rfl, hL, hK⟩
      exact ⟨by rw [Nd.pAns, if_neg hd, if_pos hk], by rw [Nd.pNext, if_neg hd, hn, if_pos hk]; exact hL, hK⟩
    · refine (rprog_bad h (dead_not hd) d b p ao n c hk).mono ?_
      rintro e w' ⟨rfl, hN, hK⟩
      exact ⟨by rw [Nd.pAns, if_neg hd, if_neg hk], ⟨L, rfl, by rw [Nd.pNext, if_neg hd, hn, if_neg hk]; exact hN⟩, hK⟩
theorem erase_u {m : Nat} {w : World} {L : La} {s : Nd} (h : NA m w L s) (d b : Int) :
    Calls Try.prog 21 #[.pointer (some ⟨L.n, 0, none⟩), .int .i64 d, .int .i64 b] w fun e w' => e = .returned (.int .i64 (s.eAns d b)) ∧ (∃ L', L'.n = L.n ∧ NA m w' L' (s.eNext d b)) ∧ Kn m w w' := by
  by_cases hd : s.dead = true
  · refine (erase_dead h hd d b).mono ?_
    rintro e w' ⟨rfl, rfl⟩
    exact ⟨by rw [Nd.eAns, if_pos hd], ⟨L, rfl, by rw [Nd.eNext, if_pos hd]; exact h⟩, Kn.refl _ _⟩
  · by_cases hk : s.eOk d b
    · obtain ⟨d, rfl⟩ := Int.eq_ofNat_of_zero_le hk.1.1.1
      obtain ⟨b, rfl⟩ := Int.eq_ofNat_of_zero_le hk.1.2.1
      have h1 := hk.1.1.2
      have h2 := hk.1.2.2
      refine (erase_good (d := d) (b := b) h (dead_not hd) (by omega) (by omega) hk.2).mono ?_
      rintro e w' ⟨rfl, hL, hK⟩
      exact ⟨by rw [Nd.eAns, if_neg hd, if_pos hk], by rw [Nd.eNext, if_neg hd, if_pos hk]; exact hL, hK⟩
    · refine (erase_bad h (dead_not hd) d b hk).mono ?_
      rintro e w' ⟨rfl, hN, hK⟩
      exact ⟨by rw [Nd.eAns, if_neg hd, if_neg hk], ⟨L, rfl, by rw [Nd.eNext, if_neg hd, if_neg hk]; exact hN⟩, hK⟩
theorem rerase_u {m : Nat} {w : World} {L : Lr} {s : Nd} (h : RA m w L s) (hP : 0 < s.P) (d b : Int) :
    Calls Try.prog 39 #[.pointer (some ⟨L.n, 0, none⟩), .int .i64 d, .int .i64 b] w fun e w' => e = .returned (.int .i64 (s.eAns d b)) ∧ (∃ L', L'.n = L.n ∧ RA m w' L' (s.eNext d b)) ∧ Kr m w w' := by
  by_cases hd : s.dead = true
  · refine (rerase_dead h hd d b).mono ?_
    rintro e w' ⟨rfl, rfl⟩
    exact ⟨by rw [Nd.eAns, if_pos hd], ⟨L, rfl, by rw [Nd.eNext, if_pos hd]; exact h⟩, Kr.refl _ _⟩
  · by_cases hk : s.eOk d b
    · obtain ⟨d, rfl⟩ := Int.eq_ofNat_of_zero_le hk.1.1.1
      obtain ⟨b, rfl⟩ := Int.eq_ofNat_of_zero_le hk.1.2.1
      have h1 := hk.1.1.2
      have h2 := hk.1.2.2
      refine (rerase_good (d := d) (b := b) h (dead_not hd) (by omega) (by omega) hk.2 hP).mono ?_
      rintro e w' ⟨rfl, hL, hK⟩
      exact ⟨by rw [Nd.eAns, if_neg hd, if_pos hk], by rw [Nd.eNext, if_neg hd, if_pos hk]; exact hL, hK⟩
    · refine (rerase_bad h (dead_not hd) d b hk).mono ?_
      rintro e w' ⟨rfl, hN, hK⟩
      exact ⟨by rw [Nd.eAns, if_neg hd, if_neg hk], ⟨L, rfl, by rw [Nd.eNext, if_neg hd, if_neg hk]; exact hN⟩, hK⟩
theorem read_u {m : Nat} {w : World} {L : La} {s : Nd} (h : NA m w L s) (d b p : Int) :
    Calls Try.prog 24 #[.pointer (some ⟨L.n, 0, none⟩), .int .i64 d, .int .i64 b, .int .i64 p] w fun e w' => ∃ v, e = .returned (.tuple #[v, .int .i64 (s.rAns d b p)]) ∧ Fr 0 w' v (s.rVal d b p) ∧ NA m w' L (s.rNext d b p) ∧ Kn m w w' := by
  by_cases hd : s.dead = true
  · refine (read_dead h hd d b p).mono ?_
    rintro e w' ⟨rfl, rfl⟩
    exact ⟨_, by rw [Nd.rAns, if_pos hd], .inl ⟨by rw [Nd.rVal, if_pos hd], rfl⟩, by rw [Nd.rNext, if_pos hd]; exact h, Kn.refl _ _⟩
  · by_cases hk : s.Good d b p
    · obtain ⟨d, rfl⟩ := Int.eq_ofNat_of_zero_le hk.1.1.1.1
      obtain ⟨b, rfl⟩ := Int.eq_ofNat_of_zero_le hk.1.1.2.1
      obtain ⟨p, rfl⟩ := Int.eq_ofNat_of_zero_le hk.2.1
      have h1 := hk.1.1.1.2
      have h2 := hk.1.1.2.2
      have h3 := hk.2.2
      refine (read_good (d := d) (b := b) (p := p) h (dead_not hd) (by omega) (by omega) hk.1.2 (by omega)).mono ?_
      rintro e w' ⟨v, rfl, hF, hN, hK⟩
      exact ⟨v, by rw [Nd.rAns, if_neg hd, if_pos hk], by rw [Nd.rVal, if_neg hd, if_pos hk]; exact hF.low, by rw [Nd.rNext, if_neg hd, if_pos hk]; exact hN, hK⟩
    · refine (read_bad h (dead_not hd) d b p hk).mono ?_
      rintro e w' ⟨rfl, hN, hK⟩
      exact ⟨_, by rw [Nd.rAns, if_neg hd, if_neg hk], .inl ⟨by rw [Nd.rVal, if_neg hd, if_neg hk], rfl⟩, by rw [Nd.rNext, if_neg hd, if_neg hk]; exact hN, hK⟩
theorem rread_u {m : Nat} {w : World} {L : Lr} {s : Nd} (h : RA m w L s) (d b p : Int) :
    Calls Try.prog 40 #[.pointer (some ⟨L.n, 0, none⟩), .int .i64 d, .int .i64 b, .int .i64 p] w fun e w' => ∃ v, e = .returned (.tuple #[v, .int .i64 (s.rAns d b p)]) ∧ Fr 0 w' v (s.rVal d b p) ∧ RA m w' L (s.rNext d b p) ∧ Kr m w w' := by
  by_cases hd : s.dead = true
  · refine (rread_dead h hd d b p).mono ?_
    rintro e w' ⟨rfl, rfl⟩
    exact ⟨_, by rw [Nd.rAns, if_pos hd], .inl ⟨by rw [Nd.rVal, if_pos hd], rfl⟩, by rw [Nd.rNext, if_pos hd]; exact h, Kr.refl _ _⟩
  · by_cases hk : s.Good d b p
    · obtain ⟨d, rfl⟩ := Int.eq_ofNat_of_zero_le hk.1.1.1.1
      obtain ⟨b, rfl⟩ := Int.eq_ofNat_of_zero_le hk.1.1.2.1
      obtain ⟨p, rfl⟩ := Int.eq_ofNat_of_zero_le hk.2.1
      have h1 := hk.1.1.1.2
      have h2 := hk.1.1.2.2
      have h3 := hk.2.2
      refine (rread_good (d := d) (b := b) (p := p) h (dead_not hd) (by omega) (by omega) hk.1.2 (by omega)).mono ?_
      rintro e w' ⟨v, rfl, hF, hN, hK⟩
      exact ⟨v, by rw [Nd.rAns, if_neg hd, if_pos hk], by rw [Nd.rVal, if_neg hd, if_pos hk]; exact hF, by rw [Nd.rNext, if_neg hd, if_pos hk]; exact hN, hK⟩
    · refine (rread_bad h (dead_not hd) d b p hk).mono ?_
      rintro e w' ⟨rfl, hN, hK⟩
      exact ⟨_, by rw [Nd.rAns, if_neg hd, if_neg hk], .inl ⟨by rw [Nd.rVal, if_neg hd, if_neg hk], rfl⟩, by rw [Nd.rNext, if_neg hd, if_neg hk]; exact hN, hK⟩
theorem noise_u {m : Nat} {w : World} {L : La} {s : Nd} (h : NA m w L s) (d b p : Int) (v : Value) (gl : Nat) (zs : List Int) (hZ : ZArg w v gl zs) :
    Calls Try.prog 41 #[.pointer (some ⟨L.n, 0, none⟩), .int .i64 d, .int .i64 b, .int .i64 p, v] w fun e w' => e = .returned (.int .i64 (s.nAns d b p)) ∧ (∃ L', L'.n = L.n ∧ NA m w' L' (s.nNext d b p zs)) ∧ Kn m w w' := by
  by_cases hk : s.nOk d b p
  · obtain ⟨d, rfl⟩ := Int.eq_ofNat_of_zero_le hk.1.1.1
    obtain ⟨b, rfl⟩ := Int.eq_ofNat_of_zero_le hk.1.2.1
    obtain ⟨p, rfl⟩ := Int.eq_ofNat_of_zero_le hk.2.1
    have h1 := hk.1.1.2
    have h2 := hk.1.2.2
    have h3 := hk.2.2
    refine (noise_good (d := d) (b := b) (p := p) h (by omega) (by omega) (by omega) v gl zs hZ).mono ?_
    rintro e w' ⟨rfl, hL, hK⟩
    exact ⟨by rw [Nd.nAns, if_pos hk], by rw [Nd.nNext, if_pos hk]; exact hL, hK⟩
  · refine (noise_bad h d b p v hk).mono ?_
    rintro e w' ⟨rfl, rfl⟩
    exact ⟨by rw [Nd.nAns, if_neg hk], ⟨L, rfl, by rw [Nd.nNext, if_neg hk]; exact h⟩, Kn.refl _ _⟩
theorem rnoise_u {m : Nat} {w : World} {L : Lr} {s : Nd} (h : RA m w L s) (d b p : Int) (ao : Option Addr) (n c gl : Nat) (zs : List Int) (hZ : ZArg w (.slice ao n c) gl zs) (hn : n ≤ 1000) :
    Calls Try.prog 42 #[.pointer (some ⟨L.n, 0, none⟩), .int .i64 d, .int .i64 b, .int .i64 p, .slice ao n c] w fun e w' => e = .returned (.int .i64 (s.nAns d b p)) ∧ (∃ L', L'.n = L.n ∧ RA m w' L' (s.nNext d b p zs)) ∧ Kr m w w' := by
  by_cases hk : s.nOk d b p
  · obtain ⟨d, rfl⟩ := Int.eq_ofNat_of_zero_le hk.1.1.1
    obtain ⟨b, rfl⟩ := Int.eq_ofNat_of_zero_le hk.1.2.1
    obtain ⟨p, rfl⟩ := Int.eq_ofNat_of_zero_le hk.2.1
    have h1 := hk.1.1.2
    have h2 := hk.1.2.2
    have h3 := hk.2.2
    refine (rnoise_good (d := d) (b := b) (p := p) h (by omega) (by omega) (by omega) ao n c gl zs hZ hn).mono ?_
    rintro e w' ⟨rfl, hL, hK⟩
    exact ⟨by rw [Nd.nAns, if_pos hk], by rw [Nd.nNext, if_pos hk]; exact hL, hK⟩
  · refine (rnoise_bad h d b p _ hk).mono ?_
    rintro e w' ⟨rfl, rfl⟩
    exact ⟨by rw [Nd.nAns, if_neg hk], ⟨L, rfl, by rw [Nd.nNext, if_neg hk]; exact h⟩, Kr.refl _ _⟩

end Go.Proofs.Ytnondiaefpdlpaa
