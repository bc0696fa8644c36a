/-
  Flash that is calm: no bad block, power, no stop, no noise.
-/
import Derived.Test.YtnondiaefpdlpaaV7x
import Derived.Test.YtnondiaefpdlpaaH7k
import Derived.Test.YtnondiaefpdlpaaH7
namespace Go.Proofs.Ytnondiaefpdlpaa
open Go.RowKit Go.Shelf

structure Cm (D B P : Nat) (s : Nd) : Prop where
  D : s.D = D
  B : s.B = B
  P : s.P = P
  bad : ∀ d b, s.bad d b = false
  dead : s.dead = false
  left : s.left = 0
  noise : ∀ d b p, s.noise d b p = []

theorem Cm.blank (D B P : Nat) : Cm D B P (blank D B P (fun _ _ => false)) := ⟨rfl, rfl, rfl, fun _ _ => rfl, rfl, rfl, fun _ _ _ => rfl⟩
theorem Cm.err {D B P : Nat} {s : Nd} (h : Cm D B P s) : s.err = 0 := by rw [Nd.err, h.left]; rfl
theorem Cm.mixed {D B P : Nat} {s : Nd} (h : Cm D B P s) (a b : List Nat) : s.mixed a b = b := by rw [Nd.mixed, h.left]; rfl
theorem Cm.begun {D B P : Nat} {s : Nd} (h : Cm D B P s) : s.begun = { s with ops := inc s.ops } := by
  unfold Nd.begun
  rw [h.left, h.dead]
  have h1 := h.left
  have h2 := h.dead
  cases s
  simp only at h1 h2
  subst h1
  subst h2
  rfl
theorem Cm.progd {D B P : Nat} {s : Nd} (h : Cm D B P s) (d b p : Nat) (x : List Nat) : s.progd d b p x = { s with ops := inc s.ops, held := put3 s.held d b p x, next := put2 s.next d b (p + 1) } := by
  unfold Nd.progd
  rw [h.begun, h.mixed]
theorem Cm.erased {D B P : Nat} {s : Nd} (h : Cm D B P s) (d b : Nat) : s.erased d b = { s with ops := inc s.ops, held := fun d' b' p' => if d' = d ∧ b' = b then ones60 else s.held d' b' p', era := put2 s.era d b (inc (s.era d b)), next := put2 s.next d b 0 } := by
  unfold Nd.erased
  rw [h.begun, if_neg (by rw [h.left]; omega)]
  have e : (fun d' b' p' => if d' = d ∧ b' = b then s.mixed (s.held d b p') ones60 else s.held d' b' p') = fun d' b' p' => if d' = d ∧ b' = b then ones60 else s.held d' b' p' := by
    funext d' b' p'
    rw [h.mixed]
  rw [e]
theorem Cm.upd {D B P : Nat} {s : Nd} (h : Cm D B P s) (next : Nat → Nat → Nat) (era : Nat → Nat → Int) (held : Nat → Nat → Nat → List Nat) (ops wrong : Int) : Cm D B P { s with next, era, held, ops, wrong } := ⟨h.D, h.B, h.P, h.bad, h.dead, h.left, h.noise⟩
theorem Cm.flip {D B P : Nat} {s : Nd} (h : Cm D B P s) (x : List Nat) (d b p : Nat) : flipZ x (s.noise d b p) = x := by rw [h.noise]; rfl

theorem put3_same {α : Type} (f : Nat → Nat → Nat → α) (d b p : Nat) (x : α) : put3 f d b p x d b p = x := by simp [put3]
theorem put3_ne {α : Type} (f : Nat → Nat → Nat → α) {d b p d' b' p' : Nat} (x : α) (h : ¬ (d' = d ∧ b' = b ∧ p' = p)) : put3 f d b p x d' b' p' = f d' b' p' := if_neg h
theorem put2_same {α : Type} (f : Nat → Nat → α) (d b : Nat) (x : α) : put2 f d b x d b = x := by simp [put2]
theorem put2_ne {α : Type} (f : Nat → Nat → α) {d b d' b' : Nat} (x : α) (h : ¬ (d' = d ∧ b' = b)) : put2 f d b x d' b' = f d' b' := if_neg h

/-- A read of flash that is calm. -/
theorem read_cm {m : Nat} {w : World} {L : La} {s : Nd} {D B P : Nat} (h : NA m w L s) (hc : Cm D B P s) {d b p : Nat} (hd : d < D) (hb : b < B) (hp : p < P) :
    Calls Try.prog 24 #[.pointer (some ⟨L.n, 0, none⟩), .int .i64 (d : Int), .int .i64 (b : Int), .int .i64 (p : Int)] w fun e w' => ∃ v, e = .returned (.tuple #[v, .int .i64 0]) ∧ Fr w.heap.size w' v (s.held d b p) ∧ NA m w' L { s with ops := inc s.ops } ∧ Kn m w w' := by
  refine (read_good h hc.dead (by rw [hc.D]; exact hd) (by rw [hc.B]; exact hb) (hc.bad d b) (by rw [hc.P]; exact hp)).mono ?_
  rintro e w1 ⟨v, h1, h2, h3, h4⟩
  rw [hc.flip] at h2
  exact ⟨v, h1, h2, h3, h4⟩
theorem prog_cm {m : Nat} {w : World} {L : La} {s : Nd} {D B P : Nat} (h : NA m w L s) (hc : Cm D B P s) {d b p : Nat} (hd : d < D) (hb : b < B) (hp : p < P) (hnx : s.next d b = p) (v : Value) (gx : Nat) (x : List Nat) (hX : Arg w v gx x) (hXs : Sfe m w gx x) (hxl : x.length = 60) :
    Calls Try.prog 22 #[.pointer (some ⟨L.n, 0, none⟩), .int .i64 (d : Int), .int .i64 (b : Int), .int .i64 (p : Int), v] w fun e w' => e = .returned (.int .i64 0) ∧ (∃ L', L'.n = L.n ∧ NA m w' L' { s with ops := inc s.ops, held := put3 s.held d b p x, next := put2 s.next d b (p + 1) }) ∧ Kn m w w' := by
  refine (prog_good h hc.dead (by rw [hc.D]; exact hd) (by rw [hc.B]; exact hb) (hc.bad d b) (by rw [hc.P]; exact hp) hnx v gx x hX hXs hxl).mono ?_
  rintro e w1 ⟨h1, h2, h3⟩
  rw [hc.err] at h1
  rw [hc.progd] at h2
  exact ⟨h1, h2, h3⟩
theorem erase_cm {m : Nat} {w : World} {L : La} {s : Nd} {D B P : Nat} (h : NA m w L s) (hc : Cm D B P s) {d b : Nat} (hd : d < D) (hb : b < B) :
    Calls Try.prog 21 #[.pointer (some ⟨L.n, 0, none⟩), .int .i64 (d : Int), .int .i64 (b : Int)] w fun e w' => e = .returned (.int .i64 0) ∧ (∃ L', L'.n = L.n ∧ NA m w' L' { s with ops := inc s.ops, held := fun d' b' p' => if d' = d ∧ b' = b then ones60 else s.held d' b' p', era := put2 s.era d b (inc (s.era d b)), next := put2 s.next d b 0 }) ∧ Kn m w w' := by
  refine (erase_good h hc.dead (by rw [hc.D]; exact hd) (by rw [hc.B]; exact hb) (hc.bad d b)).mono ?_
  rintro e w1 ⟨h1, h2, h3⟩
  rw [hc.err] at h1
  rw [hc.erased] at h2
  exact ⟨h1, h2, h3⟩

end Go.Proofs.Ytnondiaefpdlpaa
