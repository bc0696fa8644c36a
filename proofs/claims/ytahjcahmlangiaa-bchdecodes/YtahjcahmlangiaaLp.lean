/-
  What the laws want of codewords, and of strings of bytes.
-/
import Derived.Test.YtahjcahmlangiaaBd
import Derived.Test.YtahjcahmlangiaaHk
namespace Go.Proofs.Ytahjcahmlangiaa
open Go.RowKit

theorem strOf_data (zs : List Int) (r : ByteArray) : (zs.foldl (fun r n => r.push (UInt8.ofNat n.toNat)) r).data.toList = r.data.toList ++ zs.map (fun n => UInt8.ofNat n.toNat) := by
  induction zs generalizing r with
  | nil => simp
  | cons z zs ih =>
    rw [List.foldl_cons, ih]
    simp [ByteArray.push]
theorem strOf_inj {a b : List Nat} (ha : Bs a) (hb : Bs b) (h : (strOf (ints a)).data.toList = (strOf (ints b)).data.toList) : a = b := by
  simp only [strOf, strOf_data] at h
  have h2 : (ints a).map (fun n => UInt8.ofNat n.toNat) = (ints b).map (fun n => UInt8.ofNat n.toNat) := by simpa using h
  simp only [ints, List.map_map] at h2
  have hl : a.length = b.length := by have := congrArg List.length h2; simpa using this
  refine eq_of_cf hl (fun i => ?_)
  by_cases hi : i < a.length
  · have h3 := congrArg (fun l : List UInt8 => l[i]?) h2
    simp only [List.getElem?_map, cf_get hi, cf_get (hl ▸ hi), Option.map_some, Option.some.injEq, Function.comp, Int.toNat_natCast] at h3
    have h4 := congrArg UInt8.toNat h3
    simp only [UInt8.toNat_ofNat'] at h4
    rw [Nat.mod_eq_of_lt (ha i), Nat.mod_eq_of_lt (hb i)] at h4
    exact h4
  · rw [cf_ge (by omega), cf_ge (by omega)]
theorem str_ne {a b : List Nat} (ha : Bs a) (hb : Bs b) (h : a ≠ b) : ((strOf (ints a)).toList == (strOf (ints b)).toList) = false := by
  rw [beq_eq_false_iff_ne, ByteArray.toList_eq, ByteArray.toList_eq]
  exact fun e => h (strOf_inj ha hb e)

/-- Turned twice it is as it was. -/
theorem flips_twice {w l : List Nat} (hb : Bs w) (hl : ∀ k ∈ l, k < 8 * w.length) (hn : l.Nodup) : flips (flips w l) l = w := by
  refine eq_of_cf (by rw [flips_len, flips_len]) (wb_ext (flips_bs (flips_bs hb _) _) hb (fun i => ?_))
  rw [wb_flips (fun k hk => by rw [flips_len]; exact hl k hk) hn, wb_flips hl hn, Nat.xor_assoc, Nat.xor_self, Nat.xor_zero]

/-- Places that were turned in a codeword. -/
structure Pl (l : List Nat) : Prop where
  nd : l.Nodup
  lt : ∀ k ∈ l, k < 224

theorem Pl.lt8 {l c : List Nat} (h : Pl l) (hc : c.length = 28) : ∀ k ∈ l, k < 8 * c.length := fun k hk => by rw [hc]; exact h.lt k hk
theorem good_turned {c l : List Nat} (hc : Code c) (h : Pl l) : Good (syn (flips c l)) l :=
  ⟨h.nd, h.lt, fun e h1 h8 => by rw [syn_flips (h.lt8 hc.len), hc.syn e h1 h8, Nat.zero_xor]⟩

/-- With up to three bits turned a codeword is mended. -/
theorem dec_near {c l : List Nat} (hc : Code c) (h : Pl l) (h3 : l.length ≤ 3) : restF (mend (flips c l)) = 0 ∧ mend (flips c l) = c ∧ (found (restF (flips c l))).length = l.length := by
  have hl : (flips c l).length = 28 := by rw [flips_len, hc.len]
  have hb := flips_bs hc.bs l
  have ht : Told (flips c l) (some l) := .near l (good_turned hc h) h3
  obtain ⟨f1, f2⟩ := found_told hl hb
  by_cases hz : restF (mend (flips c l)) = 0
  · rcases ht.once hl hb (f1 hz) with ⟨h0, _⟩ | ⟨a, b, e1, e2, e3, e4⟩
    · cases h0
    · cases e1
      cases e2
      refine ⟨hz, ?_, e4.symm⟩
      show flips (flips c l) (found _) = c
      rw [← e3]
      exact flips_twice hc.bs (h.lt8 hc.len) h.nd
  · rcases ht.once hl hb (f2 hz) with ⟨h0, _⟩ | ⟨a, b, _, e2, _⟩
    · cases h0
    · cases e2

theorem diff_turned {c l : List Nat} (hc : Code c) (h : Pl l) : (diff (flips c l) c).length = l.length := by rw [diff_comm, diff_flips_len (h.lt8 hc.len) h.nd]

/-- What is mended differs just at the places that were found. -/
theorem diff_mend {s : List Nat} (hl : s.length = 28) : (diff s (mend s)).length = (found (restF s)).length :=
  diff_flips_len (fun k hk => by rw [hl]; exact found_lt _ k hk) (found_nodup _)

/-- With four or five bits turned there is none. -/
theorem dec_far {c l : List Nat} (hc : Code c) (h : Pl l) (h4 : 4 ≤ l.length) (h5 : l.length ≤ 5) : restF (mend (flips c l)) ≠ 0 := by
  intro hz
  have hl : (flips c l).length = 28 := by rw [flips_len, hc.len]
  have hm : Code (mend (flips c l)) := (rest_code (by rw [mend_len, hl]) (mend_bs (flips_bs hc.bs l))).1 hz
  have hd := diff_turned hc h
  have := near_none (u := flips c l) hc hm (by omega) (by omega)
  rw [diff_mend hl] at this
  have := found_len (restF (flips c l))
  omega

/-- What is told is a codeword's. -/
theorem mend_enc {s : List Nat} (hl : s.length = 28) (hb : Bs s) (hz : restF (mend s) = 0) : IsEnc ((mend s).drop 4) (mend s) :=
  ⟨(rest_code (by rw [mend_len, hl]) (mend_bs hb)).1 hz, rfl⟩
theorem drop4_len {s : List Nat} (hl : s.length = 28) : (s.drop 4).length = 24 := by rw [List.length_drop, hl]
theorem drop4_bs {s : List Nat} (hb : Bs s) : Bs (s.drop 4) := fun i => by rw [cf_drop]; exact hb _
theorem mend_encF {s : List Nat} (hl : s.length = 28) (hb : Bs s) (hz : restF (mend s) = 0) : encF ((mend s).drop 4) = mend s :=
  (encF_is (drop4_bs (mend_bs hb)) (drop4_len (by rw [mend_len, hl]))).once (mend_enc hl hb hz)

theorem synF_len (w : List Nat) : (synF w).length = 8 := rfl
theorem zeros_code : Code (List.replicate 28 0) := by
  have := (encF_is (Bs.zeros 24) List.length_replicate).code
  rwa [enc_noughts] at this

theorem one_pl {k : Nat} (hk : k < 224) : Pl [k] := ⟨by simp, by simpa using hk⟩
theorem encF_drop {d : List Nat} (hl : d.length = 24) (hb : Bs d) : (encF d).drop 4 = d := (encF_is hb hl).data

/-- What Decode tells where up to three bits were turned. -/
theorem dec_data {c d l : List Nat} (hc : IsEnc d c) (h : Pl l) (h3 : l.length ≤ 3) : restF (mend (flips c l)) = 0 ∧ (mend (flips c l)).drop 4 = d ∧ (found (restF (flips c l))).length = l.length := by
  obtain ⟨h1, h2, h3⟩ := dec_near hc.code h h3
  exact ⟨h1, by rw [h2, hc.data], h3⟩

/-- What is told of a codeword with places turned. -/
theorem near_facts {c d l : List Nat} (hc : IsEnc d c) (h : Pl l) (hz : restF (mend (flips c l)) = 0) :
    (found (restF (flips c l))).length ≤ 3 ∧ ((mend (flips c l)).drop 4 = d → (found (restF (flips c l))).length = l.length) ∧
    ((mend (flips c l)).drop 4 ≠ d → 9 ≤ (diff (mend (flips c l)) c).length ∧ 9 ≤ l.length + (found (restF (flips c l))).length) := by
  have hl : (flips c l).length = 28 := by rw [flips_len, hc.code.len]
  have hb := flips_bs hc.code.bs l
  have hm := mend_enc hl hb hz
  have hd := diff_turned hc.code h
  have hd2 := diff_mend hl
  refine ⟨found_len _, fun e => ?_, fun e => ?_⟩
  · rw [e] at hm
    have := hm.once hc
    rw [this] at hd2
    omega
  · have h9 : 9 ≤ (diff (mend (flips c l)) c).length := by
      rcases hm.code.nine hc.code with h | h
      · exact absurd (by rw [h, hc.data]) e
      · exact h
    have := diff_tri (mend (flips c l)) (flips c l) c
    rw [diff_comm (mend (flips c l)) (flips c l)] at this
    omega
theorem near_not {c d l : List Nat} (hc : IsEnc d c) (h : Pl l) (hz : restF (mend (flips c l)) ≠ 0) : 3 < l.length := by
  by_cases h3 : l.length ≤ 3
  · exact absurd (dec_near hc.code h h3).1 hz
  · omega

/-- Codewords' sums are the sums' codewords. -/
theorem encF_sum {x y : List Nat} (hx : x.length = 24) (hy : y.length = 24) (hbx : Bs x) (hby : Bs y) : encF (padd x y) = padd (encF x) (encF y) := by
  have ex := encF_is hbx hx
  have ey := encF_is hby hy
  refine (encF_is (hbx.padd hby) (by rw [padd_len (by rw [hx, hy]), hx])).once ⟨ex.code.sum ey.code, ?_⟩
  refine eq_of_cf (by rw [List.length_drop, padd_len (by rw [ex.code.len, ey.code.len]), padd_len (by rw [hx, hy]), ex.code.len, hx]) (fun i => ?_)
  rw [cf_drop, cf_padd, cf_padd, ← cf_drop, ← cf_drop, ex.data, ey.data]
theorem encF_apart {x y : List Nat} (hx : x.length = 24) (hy : y.length = 24) (hbx : Bs x) (hby : Bs y) (h : x ≠ y) : 9 ≤ (diff (encF x) (encF y)).length := by
  rcases (encF_is hbx hx).code.nine (encF_is hby hy).code with e | e
  · exact absurd (by rw [← encF_drop hx hbx, e, encF_drop hy hby]) h
  · exact e

theorem Arg.lt {w : World} {v : Value} {g : Nat} {s : List Nat} (h : Arg w v g s) (hs : s ≠ []) : g < w.heap.size := by
  obtain ⟨⟨ao, c, _, _, _, _, h5⟩, _⟩ := h
  exact h5.block_lt hs
theorem Arg.keep {S : List Nat} {w w' : World} {v : Value} {g : Nat} {s : List Nat} (h : Arg w v g s) (k : Kp S w w') (hn : g ∉ S) : Arg w' v g s := by
  obtain ⟨⟨ao, c, h1, h2, h3, h4, h5⟩, hb⟩ := h
  exact ⟨⟨ao, c, h1, h2, h3, h4, h5.keep k hn⟩, hb⟩
theorem Arg.cells {w : World} {ao : Option Addr} {n c g : Nat} {s : List Nat} (h : Arg w (.slice ao n c) g s) (hs : s ≠ []) : ∃ o, ao = some ⟨g, o, none⟩ ∧ ∀ j, j < s.length → w.cell? ⟨g, o + j, none⟩ = some (.int .u8 ((cf s j : Nat) : Int)) := by
  obtain ⟨⟨ao', c', h1, _, _, _, h5⟩, _⟩ := h
  cases h1
  obtain ⟨o, rfl⟩ := row_some h5 (List.length_pos_iff.2 hs)
  exact ⟨o, rfl, fun j hj => row_cell h5 hj⟩
theorem ne_len {s : List Nat} {n : Nat} (h : s.length = n + 1) : s ≠ [] := fun e => by rw [e] at h; simp at h

/-- The sums of powers at places. -/
def xe (ps : List Nat) (e : Nat) : Nat := xsum (fun k => E (k * e)) ps
def xs8 (ps : List Nat) : List Nat := [xe ps 1, xe ps 2, xe ps 3, xe ps 4, xe ps 5, xe ps 6, xe ps 7, xe ps 8]
theorem xe_lt (ps : List Nat) (e : Nat) : xe ps e < 256 := xsum_lt (fun _ _ => E_lt _)
theorem xs8_bs (ps : List Nat) : Bs (xs8 ps) := Bs.of (fun x hx => by
  simp only [xs8, List.mem_cons, List.mem_nil_iff, or_false] at hx
  rcases hx with h | h | h | h | h | h | h | h <;> rw [h] <;> exact xe_lt _ _)
theorem xs8_cf (ps : List Nat) {m : Nat} (h : m < 8) : cf (xs8 ps) m = xe ps (m + 1) := by
  match m, h with
  | 0, _ => rfl
  | 1, _ => rfl
  | 2, _ => rfl
  | 3, _ => rfl
  | 4, _ => rfl
  | 5, _ => rfl
  | 6, _ => rfl
  | 7, _ => rfl
theorem synF_turned {c ps : List Nat} (hc : Code c) (h : Pl ps) : synF (flips c ps) = xs8 ps := by
  have hg := (good_turned hc h).eq
  rw [synF_eq]
  unfold xs8 xe
  rw [hg 1 (by omega) (by omega), hg 2 (by omega) (by omega), hg 3 (by omega) (by omega), hg 4 (by omega) (by omega), hg 5 (by omega) (by omega), hg 6 (by omega) (by omega), hg 7 (by omega) (by omega), hg 8 (by omega) (by omega)]
theorem xe_sq (ps : List Nat) (e : Nat) : gmul (xe ps e) (xe ps e) = xe ps (2 * e) := by
  unfold xe
  induction ps with
  | nil => exact gmul_zero 0
  | cons k ps ih =>
    rw [xsum_cons, xsum_cons, sq_sum (E_lt _) (xsum_lt (fun _ _ => E_lt _)), ih, gmul_E]
    congr 2
    rw [Nat.mul_left_comm]
    omega
theorem xe_take {ps : List Nat} {j : Nat} (h : j < ps.length) (e : Nat) : xe (ps.take (j + 1)) e = xe (ps.take j) e ^^^ E (cf ps j * e) := by
  have : ps.take (j + 1) = ps.take j ++ [cf ps j] := by
    rw [List.take_succ_eq_append_getElem h]
    have := cf_get h
    rw [List.getElem?_eq_getElem h] at this
    simp at this
    rw [this]
  unfold xe
  rw [this, xsum_append, xsum_cons, xsum_nil, Nat.xor_zero]

end Go.Proofs.Ytahjcahmlangiaa
