/-
  nand: a thing on a shelf, where it stands; a block, a page; what is refused.
-/
import Derived.Test.YtnondiaefpdlpaaV7s
namespace Go.Proofs.Ytnondiaefpdlpaa
open Go.RowKit Go.Shelf

/-- Where a thing of n cells stands on a shelf. -/
def onS (g N n : Nat) (z : Int) : Value := .pointer (if 0 ≤ z ∧ z < (N : Int) then some ⟨g, z.toNat * n, none⟩ else none)

theorem onS_in {g N n : Nat} {k : Nat} (h : k < N) : onS g N n (k : Int) = .pointer (some ⟨g, k * n, none⟩) := by
  rw [onS, if_pos ⟨by omega, by omega⟩]; rfl
theorem onS_out {g N n : Nat} {z : Int} (h : ¬ (0 ≤ z ∧ z < (N : Int))) : onS g N n z = .pointer none := by rw [onS, if_neg h]

set_option maxRecDepth 100000 in
set_option maxHeartbeats 2000000 in
theorem atP_any (q o g N c : Nat) (z : Int) (w : World) (hc : w.cell? ⟨q, o, none⟩ = some (.slice (some ⟨g, 0, none⟩) N c)) (_hN : N ≤ 1000) :
    Calls Try.prog 68 #[.pointer (some ⟨q, o, none⟩), .int .i64 z] w fun e w' => e = .returned (onS g N 2 z) ∧ w' = w := by
  by_cases h0 : 0 ≤ z
  · obtain ⟨k, rfl⟩ := Int.eq_ofNat_of_zero_le h0
    clear h0
    by_cases hk : k < N
    · have h1 : (k : Int) < (N : Int) := by omega
      rw [onS_in hk]
      go_enter Try.func68, Try.ntmps68
      go_wp2
      go_ret
      exact ⟨rfl, rfl⟩
    · have h1 : (N : Int) ≤ (k : Int) := by omega
      rw [onS_out (by omega)]
      go_enter Try.func68, Try.ntmps68
      go_wp2
      go_ret
      exact ⟨rfl, rfl⟩
  · have h1 : z < 0 := by omega
    rw [onS_out (by omega)]
    go_enter Try.func68, Try.ntmps68
    go_wp2
    go_ret
    exact ⟨rfl, rfl⟩

set_option maxRecDepth 100000 in
set_option maxHeartbeats 2000000 in
theorem atB_any (q o g N c : Nat) (z : Int) (w : World) (hc : w.cell? ⟨q, o, none⟩ = some (.slice (some ⟨g, 0, none⟩) N c)) (_hN : N ≤ 1000) :
    Calls Try.prog 61 #[.pointer (some ⟨q, o, none⟩), .int .i64 z] w fun e w' => e = .returned (onS g N 4 z) ∧ w' = w := by
  by_cases h0 : 0 ≤ z
  · obtain ⟨k, rfl⟩ := Int.eq_ofNat_of_zero_le h0
    clear h0
    by_cases hk : k < N
    · have h1 : (k : Int) < (N : Int) := by omega
      rw [onS_in hk]
      go_enter Try.func61, Try.ntmps61
      go_wp2
      go_ret
      exact ⟨rfl, rfl⟩
    · have h1 : (N : Int) ≤ (k : Int) := by omega
      rw [onS_out (by omega)]
      go_enter Try.func61, Try.ntmps61
      go_wp2
      go_ret
      exact ⟨rfl, rfl⟩
  · have h1 : z < 0 := by omega
    rw [onS_out (by omega)]
    go_enter Try.func61, Try.ntmps61
    go_wp2
    go_ret
    exact ⟨rfl, rfl⟩

set_option maxRecDepth 100000 in
set_option maxHeartbeats 2000000 in
theorem atB_nil (z : Int) (w : World) :
    Calls Try.prog 61 #[.pointer none, .int .i64 z] w fun e w' => e = .returned (.pointer none) ∧ w' = w := by
  go_enter Try.func61, Try.ntmps61
  go_wp2
  go_ret
  exact ⟨rfl, rfl⟩

set_option maxRecDepth 100000 in
set_option maxHeartbeats 2000000 in
theorem atD_any (q o g N c : Nat) (z : Int) (w : World) (hc : w.cell? ⟨q, o, none⟩ = some (.slice (some ⟨g, 0, none⟩) N c)) (_hN : N ≤ 1000) :
    Calls Try.prog 60 #[.pointer (some ⟨q, o, none⟩), .int .i64 z] w fun e w' => e = .returned (onS g N 1 z) ∧ w' = w := by
  by_cases h0 : 0 ≤ z
  · obtain ⟨k, rfl⟩ := Int.eq_ofNat_of_zero_le h0
    clear h0
    by_cases hk : k < N
    · have h1 : (k : Int) < (N : Int) := by omega
      rw [onS_in hk, Nat.mul_one]
      go_enter Try.func60, Try.ntmps60
      go_wp2
      go_ret
      exact ⟨rfl, rfl⟩
    · have h1 : (N : Int) ≤ (k : Int) := by omega
      rw [onS_out (by omega)]
      go_enter Try.func60, Try.ntmps60
      go_wp2
      go_ret
      exact ⟨rfl, rfl⟩
  · have h1 : z < 0 := by omega
    rw [onS_out (by omega)]
    go_enter Try.func60, Try.ntmps60
    go_wp2
    go_ret
    exact ⟨rfl, rfl⟩

/-- Is there such a block? -/
def Nd.There (s : Nd) (d b : Int) : Prop := (0 ≤ d ∧ d < (s.D : Int)) ∧ 0 ≤ b ∧ b < (s.B : Int)
instance (s : Nd) (d b : Int) : Decidable (s.There d b) := by unfold Nd.There; infer_instance

theorem NA.tc {m : Nat} {w : World} {L : La} {s : Nd} (h : NA m w L s) {j : Nat} {v : Value} (hj : (topC L s)[j]? = some v) : w.cell? ⟨L.n, j, none⟩ = some v := cell_blk h.top hj
theorem NA.cDead {m : Nat} {w : World} {L : La} {s : Nd} (h : NA m w L s) : w.cell? ⟨L.n, 4, none⟩ = some (.bool s.dead) := h.tc rfl
theorem NA.cLeft {m : Nat} {w : World} {L : La} {s : Nd} (h : NA m w L s) : w.cell? ⟨L.n, 5, none⟩ = some (.int .i64 (s.left : Int)) := h.tc rfl
theorem NA.cMask {m : Nat} {w : World} {L : La} {s : Nd} (h : NA m w L s) : w.cell? ⟨L.n, 6, none⟩ = some L.mv := h.tc rfl
theorem NA.cOps {m : Nat} {w : World} {L : La} {s : Nd} (h : NA m w L s) : w.cell? ⟨L.n, 7, none⟩ = some (.int .i64 s.ops) := h.tc rfl
theorem NA.cWrong {m : Nat} {w : World} {L : La} {s : Nd} (h : NA m w L s) : w.cell? ⟨L.n, 8, none⟩ = some (.int .i64 s.wrong) := h.tc rfl
theorem NA.dc {m : Nat} {w : World} {L : La} {s : Nd} (h : NA m w L s) {d : Nat} (hd : d < s.D) : w.cell? ⟨L.ds, d, none⟩ = some (.slice (some ⟨L.bs d, 0, none⟩) s.B s.B) := by
  obtain ⟨cur, h1, h2⟩ := h.dies
  exact cell_blk h1 (h2 d hd)
theorem NA.bc {m : Nat} {w : World} {L : La} {s : Nd} (h : NA m w L s) {d b : Nat} (hd : d < s.D) (hb : b < s.B) {j : Nat} (hj : j < 4) : w.cell? ⟨L.bs d, b * 4 + j, none⟩ = some (blkC L s d b j) := by
  obtain ⟨cur, h1, h2⟩ := h.blocks d hd
  exact cell_blk h1 (h2 b hb j hj)
theorem NA.pc {m : Nat} {w : World} {L : La} {s : Nd} (h : NA m w L s) {d b p : Nat} (hd : d < s.D) (hb : b < s.B) (hp : p < s.P) {j : Nat} (hj : j < 2) : w.cell? ⟨L.ps d b, p * 2 + j, none⟩ = some (pagC L d b p j) := by
  obtain ⟨cur, h1, h2⟩ := h.pages d b hd hb
  exact cell_blk h1 (h2 p hp j hj)
theorem free_blk {w : World} {g j : Nat} {cur : Array Value} {t : TypeId} (h : w.heap[g]? = some (.cells cur t (0, 0))) : w.frozen? ⟨g, j, none⟩ = false := by simp [World.frozen?, h]
theorem NA.tf {m : Nat} {w : World} {L : La} {s : Nd} (h : NA m w L s) (j : Nat) : w.frozen? ⟨L.n, j, none⟩ = false := free_blk h.top
theorem NA.bf {m : Nat} {w : World} {L : La} {s : Nd} (h : NA m w L s) {d : Nat} (hd : d < s.D) (j : Nat) : w.frozen? ⟨L.bs d, j, none⟩ = false := by
  obtain ⟨cur, h1, h2⟩ := h.blocks d hd
  exact free_blk h1
theorem NA.pf {m : Nat} {w : World} {L : La} {s : Nd} (h : NA m w L s) {d b : Nat} (hd : d < s.D) (hb : b < s.B) (j : Nat) : w.frozen? ⟨L.ps d b, j, none⟩ = false := by
  obtain ⟨cur, h1, h2⟩ := h.pages d b hd hb
  exact free_blk h1

/-- Where a block stands. -/
def Nd.blk (s : Nd) (L : La) (d b : Int) : Value := .pointer (if s.There d b then some ⟨L.bs d.toNat, b.toNat * 4, none⟩ else none)
def Nd.snd (s : Nd) (L : La) (d b : Int) : Value := .pointer (if s.There d b ∧ s.bad d.toNat b.toNat = false then some ⟨L.bs d.toNat, b.toNat * 4, none⟩ else none)
theorem There.nat {s : Nd} {d b : Nat} (hd : d < s.D) (hb : b < s.B) : s.There d b := ⟨⟨by omega, by omega⟩, by omega, by omega⟩

set_option maxRecDepth 100000 in
set_option maxHeartbeats 2000000 in
theorem block_any {m : Nat} {w : World} {L : La} {s : Nd} (h : NA m w L s) (d b : Int) :
    Calls Try.prog 34 #[.pointer (some ⟨L.n, 0, none⟩), .int .i64 d, .int .i64 b] w fun e w' => e = .returned (s.blk L d b) ∧ w' = w := by
  have HN := hide h
  have hD := h.ok.d
  have hB := h.ok.b
  have HC := hide (h.tc (j := 3) rfl)
  clear h
  by_cases h1 : 0 ≤ d ∧ d < (s.D : Int)
  · obtain ⟨k, rfl⟩ := Int.eq_ofNat_of_zero_le h1.1
    have hk : k < s.D := by omega
    have HO := hide (onS_in (g := L.ds) (n := 1) hk)
    have HQ := hide ((unhide HN).dc hk)
    have hr : s.blk L (k : Int) b = onS (L.bs k) s.B 4 b := by
      unfold Nd.blk onS
      by_cases hb : 0 ≤ b ∧ b < (s.B : Int)
      · rw [if_pos hb, if_pos ⟨h1, hb⟩]; rfl
      · rw [if_neg hb, if_neg (fun h => hb h.2)]
    rw [hr]
    clear h1 hr
    go_enter Try.func34, Try.ntmps34
    go_wp2_with fail
    refine (atD_any _ _ _ _ _ _ w (unhide HC) (by omega)).mono ?_
    rintro e w1 ⟨rfl, rfl⟩
    rw [unhide HO, Nat.mul_one]
    go_wp2_with fail
    refine (atB_any _ _ _ _ _ _ w1 (unhide HQ) (by omega)).mono ?_
    rintro e w1 ⟨rfl, rfl⟩
    go_wp2_with fail
    go_ret
    exact ⟨rfl, rfl⟩
  · have HO := hide (onS_out (g := L.ds) (n := 1) h1)
    have hr : s.blk L d b = .pointer none := by rw [Nd.blk, if_neg (fun h => h1 h.1)]
    rw [hr]
    clear h1 hr
    go_enter Try.func34, Try.ntmps34
    go_wp2_with fail
    refine (atD_any _ _ _ _ _ _ w (unhide HC) (by omega)).mono ?_
    rintro e w1 ⟨rfl, rfl⟩
    rw [unhide HO]
    go_wp2_with fail
    refine (atB_nil _ w1).mono ?_
    rintro e w1 ⟨rfl, rfl⟩
    go_wp2_with fail
    go_ret
    exact ⟨rfl, rfl⟩

set_option maxRecDepth 100000 in
set_option maxHeartbeats 2000000 in
theorem sound_any {m : Nat} {w : World} {L : La} {s : Nd} (h : NA m w L s) (d b : Int) :
    Calls Try.prog 47 #[.pointer (some ⟨L.n, 0, none⟩), .int .i64 d, .int .i64 b] w fun e w' => e = .returned (s.snd L d b) ∧ w' = w := by
  have HN := hide h
  clear h
  by_cases h1 : s.There d b
  · have hr : s.blk L d b = .pointer (some ⟨L.bs d.toNat, b.toNat * 4, none⟩) := by rw [Nd.blk, if_pos h1]
    obtain ⟨k, hk⟩ := Int.eq_ofNat_of_zero_le h1.1.1
    obtain ⟨j, hj⟩ := Int.eq_ofNat_of_zero_le h1.2.1
    have hkD : k < s.D := by have := h1.1.2; omega
    have hjB : j < s.B := by have := h1.2.2; omega
    subst hk
    subst hj
    have hcc : w.cell? ⟨L.bs k, j * 4, none⟩ = some (.bool (s.bad k j)) := (unhide HN).bc hkD hjB (j := 0) (by omega)
    rw [Int.toNat_natCast, Int.toNat_natCast] at hr
    have HR := hide hr
    have HCC := hide hcc
    cases hbd : s.bad k j with
    | true =>
      have hs : s.snd L k j = .pointer none := by rw [Nd.snd, if_neg (fun h => by have := h.2; rw [Int.toNat_natCast, Int.toNat_natCast, hbd] at this; cases this)]
      rw [hs]
      rw [hbd] at HCC
      clear hs hr h1 hkD hjB hbd hcc
      go_enter Try.func47, Try.ntmps47
      go_wp2_with fail
      refine (block_any (unhide HN) _ _).mono ?_
      rintro e w1 ⟨rfl, rfl⟩
      rw [unhide HR]
      have hcc := unhide HCC
      go_wp2_with fail
      go_ret
      exact ⟨rfl, rfl⟩
    | false =>
      have hs : s.snd L k j = .pointer (some ⟨L.bs k, j * 4, none⟩) := by rw [Nd.snd, if_pos ⟨h1, by rw [Int.toNat_natCast, Int.toNat_natCast]; exact hbd⟩]; rfl
      rw [hs]
      rw [hbd] at HCC
      clear hs hr h1 hkD hjB hbd hcc
      go_enter Try.func47, Try.ntmps47
      go_wp2_with fail
      refine (block_any (unhide HN) _ _).mono ?_
      rintro e w1 ⟨rfl, rfl⟩
      rw [unhide HR]
      have hcc := unhide HCC
      go_wp2_with fail
      go_ret
      exact ⟨rfl, rfl⟩
  · have HR : Hid (s.blk L d b = .pointer none) := by show _ = _; rw [Nd.blk, if_neg h1]
    have hs : s.snd L d b = .pointer none := by rw [Nd.snd, if_neg (fun h => h1 h.1)]
    rw [hs]
    clear hs h1
    go_enter Try.func47, Try.ntmps47
    go_wp2_with fail
    refine (block_any (unhide HN) _ _).mono ?_
    rintro e w1 ⟨rfl, rfl⟩
    rw [unhide HR]
    go_wp2_with fail
    go_ret
    exact ⟨rfl, rfl⟩

set_option maxRecDepth 100000 in
set_option maxHeartbeats 2000000 in
theorem page_nil (z : Int) (w : World) :
    Calls Try.prog 53 #[.pointer none, .int .i64 z] w fun e w' => e = .returned (.pointer none) ∧ w' = w := by
  go_enter Try.func53, Try.ntmps53
  go_wp2_with fail
  go_ret
  exact ⟨rfl, rfl⟩

set_option maxRecDepth 100000 in
set_option maxHeartbeats 2000000 in
theorem page_any {m : Nat} {w : World} {L : La} {s : Nd} (h : NA m w L s) {d b : Nat} (hd : d < s.D) (hb : b < s.B) (z : Int) :
    Calls Try.prog 53 #[.pointer (some ⟨L.bs d, b * 4, none⟩), .int .i64 z] w fun e w' => e = .returned (onS (L.ps d b) s.P 2 z) ∧ w' = w := by
  have hP := h.ok.p
  have HC := hide (h.bc hd hb (j := 1) (by omega))
  clear h
  go_enter Try.func53, Try.ntmps53
  go_wp2_with fail
  refine (atP_any _ _ _ _ _ _ w (unhide HC) (by omega)).mono ?_
  rintro e w1 ⟨rfl, rfl⟩
  go_wp2_with fail
  go_ret
  exact ⟨rfl, rfl⟩

end Go.Proofs.Ytnondiaefpdlpaa
