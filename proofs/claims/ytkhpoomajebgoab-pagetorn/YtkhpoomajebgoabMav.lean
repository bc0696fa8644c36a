/-
  Strings of bytes; the laws' own known.
  What the laws want of codewords, and of strings of bytes.
  The second telling's single (ramekinref4).
  append(l, k) of ints; rows of ints that the call owns.
-/
import Derived.Test.YtkhpoomajebgoabMag
import Derived.Test.YtkhpoomajebgoabMao
import Derived.Laws.BytesString
import Derived.Test.YtkhpoomajebgoabMar
import Derived.Test.YtkhpoomajebgoabMau
import Derived.Test.YtkhpoomajebgoabMah
import Derived.Test.YtkhpoomajebgoabMas
namespace Go.Proofs.Ytkhpoomajebgoab
open Go.RowKit

theorem enc_noughts : encF (List.replicate 24 0) = List.replicate 28 0 := by decide +kernel

end Go.Proofs.Ytkhpoomajebgoab

namespace Go.Proofs.Ytkhpoomajebgoab
open Go.RowKit

/-- Turned twice it is as it was. -/
theorem flips_twice {w l : List Nat} (hb : Bs w) (hl : ∀ k ∈ l, k < 8 * w.length) (hn : l.Nodup) : flips (flips w l) l = w := by
  refine eq_of_cf (by rw [flips_len, flips_len]) (wb_ext (flips_bs (flips_bs hb _) _) hb (fun i => ?_))
  rw [wb_flips (fun k hk => by rw [flips_len]; exact hl k hk) hn, wb_flips hl hn, Nat.xor_assoc, Nat.xor_self, Nat.xor_zero]

/-- Places that were turned in a codeword. -/
structure Pl (l : List Nat) : Prop where
  nd : l.Nodup
  lt : ∀ k ∈ l, k < 224

theorem Pl.lt8 {l c : List Nat} (h : Pl l) (hc : c.length = 28) : ∀ k ∈ l, k < 8 * c.length := fun k hk => by rw [hc]; exact h.lt k hk
theorem good_turned {c l : List Nat} (hc : Code c) (h : Pl l) : Good (syn (flips c l)) l :=
  ⟨h.nd, h.lt, fun e h1 h8 => by rw [syn_flips (h.lt8 hc.len), hc.syn e h1 h8, Nat.zero_xor]⟩

/-- With up to three bits turned a codeword is mended. -/
theorem dec_near {c l : List Nat} (hc : Code c) (h : Pl l) (h3 : l.length ≤ 3) : restF (mend (flips c l)) = 0 ∧ mend (flips c l) = c ∧ (found (restF (flips c l))).length = l.length := by
  have hl : (flips c l).length = 28 := by rw [flips_len, hc.len]
  have hb := flips_bs hc.bs l
  have ht : Told (flips c l) (some l) := .near l (good_turned hc h) h3
  obtain ⟨f1, f2⟩ := found_told hl hb
  by_cases hz : restF (mend (flips c l)) = 0
  · rcases ht.once hl hb (f1 hz) with ⟨h0, _⟩ | ⟨a, b, e1, e2, e3, e4⟩
    · cases h0
    · cases e1
      cases e2
      refine ⟨hz, ?_, e4.symm⟩
      show flips (flips c l) (found _) = c
      rw [← e3]
      exact flips_twice hc.bs (h.lt8 hc.len) h.nd
  · rcases ht.once hl hb (f2 hz) with ⟨h0, _⟩ | ⟨a, b, _, e2, _⟩
    · cases h0
    · cases e2

theorem diff_turned {c l : List Nat} (hc : Code c) (h : Pl l) : (diff (flips c l) c).length = l.length := by rw [diff_comm, diff_flips_len (h.lt8 hc.len) h.nd]

/-- What is mended differs just at the places that were found. -/
theorem diff_mend {s : List Nat} (hl : s.length = 28) : (diff s (mend s)).length = (found (restF s)).length :=
  diff_flips_len (fun k hk => by rw [hl]; exact found_lt _ k hk) (found_nodup _)

/-- With four or five bits turned there is none. -/
theorem dec_far {c l : List Nat} (hc : Code c) (h : Pl l) (h4 : 4 ≤ l.length) (h5 : l.length ≤ 5) : restF (mend (flips c l)) ≠ 0 := by
  intro hz
  have hl : (flips c l).length = 28 := by rw [flips_len, hc.len]
  have hm : Code (mend (flips c l)) := (rest_code (by rw [mend_len, hl]) (mend_bs (flips_bs hc.bs l))).1 hz
  have hd := diff_turned hc h
  have := near_none (u := flips c l) hc hm (by omega) (by omega)
  rw [diff_mend hl] at this
  have := found_len (restF (flips c l))
  omega

/-- What is told is a codeword's. -/
theorem mend_enc {s : List Nat} (hl : s.length = 28) (hb : Bs s) (hz : restF (mend s) = 0) : IsEnc ((mend s).drop 4) (mend s) :=
  ⟨(rest_code (by rw [mend_len, hl]) (mend_bs hb)).1 hz, rfl⟩
theorem drop4_len {s : List Nat} (hl : s.length = 28) : (s.drop 4).length = 24 := by rw [List.length_drop, hl]
theorem drop4_bs {s : List Nat} (hb : Bs s) : Bs (s.drop 4) := fun i => by rw [cf_drop]; exact hb _
theorem mend_encF {s : List Nat} (hl : s.length = 28) (hb : Bs s) (hz : restF (mend s) = 0) : encF ((mend s).drop 4) = mend s :=
  (encF_is (drop4_bs (mend_bs hb)) (drop4_len (by rw [mend_len, hl]))).once (mend_enc hl hb hz)

theorem synF_len (w : List Nat) : (synF w).length = 8 := rfl
theorem zeros_code : Code (List.replicate 28 0) := by
  have := (encF_is (Bs.zeros 24) List.length_replicate).code
  rwa [enc_noughts] at this

theorem one_pl {k : Nat} (hk : k < 224) : Pl [k] := ⟨by simp, by simpa using hk⟩
theorem encF_drop {d : List Nat} (hl : d.length = 24) (hb : Bs d) : (encF d).drop 4 = d := (encF_is hb hl).data

/-- What Decode tells where up to three bits were turned. -/
theorem dec_data {c d l : List Nat} (hc : IsEnc d c) (h : Pl l) (h3 : l.length ≤ 3) : restF (mend (flips c l)) = 0 ∧ (mend (flips c l)).drop 4 = d ∧ (found (restF (flips c l))).length = l.length := by
  obtain ⟨h1, h2, h3⟩ := dec_near hc.code h h3
  exact ⟨h1, by rw [h2, hc.data], h3⟩

/-- What is told of a codeword with places turned. -/
theorem near_facts {c d l : List Nat} (hc : IsEnc d c) (h : Pl l) (hz : restF (mend (flips c l)) = 0) :
    (found (restF (flips c l))).length ≤ 3 ∧ ((mend (flips c l)).drop 4 = d → (found (restF (flips c l))).length = l.length) ∧
    ((mend (flips c l)).drop 4 ≠ d → 9 ≤ (diff (mend (flips c l)) c).length ∧ 9 ≤ l.length + (found (restF (flips c l))).length) := by
  have hl : (flips c l).length = 28 := by rw [flips_len, hc.code.len]
  have hb := flips_bs hc.code.bs l
  have hm := mend_enc hl hb hz
  have hd := diff_turned hc.code h
  have hd2 := diff_mend hl
  refine ⟨found_len _, fun e => ?_, fun e => ?_⟩
  · rw [e] at hm
    have := hm.once hc
    rw [this] at hd2
    omega
  · have h9 : 9 ≤ (diff (mend (flips c l)) c).length := by
      rcases hm.code.nine hc.code with h | h
      · exact absurd (by rw [h, hc.data]) e
      · exact h
    have := diff_tri (mend (flips c l)) (flips c l) c
    rw [diff_comm (mend (flips c l)) (flips c l)] at this
    omega
theorem near_not {c d l : List Nat} (hc : IsEnc d c) (h : Pl l) (hz : restF (mend (flips c l)) ≠ 0) : 3 < l.length := by
  by_cases h3 : l.length ≤ 3
  · exact absurd (dec_near hc.code h h3).1 hz
  · omega

/-- Codewords' sums are the sums' codewords. -/
theorem encF_sum {x y : List Nat} (hx : x.length = 24) (hy : y.length = 24) (hbx : Bs x) (hby : Bs y) : encF (padd x y) = padd (encF x) (encF y) := by
  have ex := encF_is hbx hx
  have ey := encF_is hby hy
  refine (encF_is (hbx.padd hby) (by rw [padd_len (by rw [hx, hy]), hx])).once ⟨ex.code.sum ey.code, ?_⟩
  refine eq_of_cf (by rw [List.length_drop, padd_len (by rw [ex.code.len, ey.code.len]), padd_len (by rw [hx, hy]), ex.code.len, hx]) (fun i => ?_)
  rw [cf_drop, cf_padd, cf_padd, ← cf_drop, ← cf_drop, ex.data, ey.data]
theorem encF_apart {x y : List Nat} (hx : x.length = 24) (hy : y.length = 24) (hbx : Bs x) (hby : Bs y) (h : x ≠ y) : 9 ≤ (diff (encF x) (encF y)).length := by
  rcases (encF_is hbx hx).code.nine (encF_is hby hy).code with e | e
  · exact absurd (by rw [← encF_drop hx hbx, e, encF_drop hy hby]) h
  · exact e

/-- The sums of powers at places. -/
def xe (ps : List Nat) (e : Nat) : Nat := xsum (fun k => E (k * e)) ps
def xs8 (ps : List Nat) : List Nat := [xe ps 1, xe ps 2, xe ps 3, xe ps 4, xe ps 5, xe ps 6, xe ps 7, xe ps 8]
theorem xe_lt (ps : List Nat) (e : Nat) : xe ps e < 256 := xsum_lt (fun _ _ => E_lt _)
theorem xs8_bs (ps : List Nat) : Bs (xs8 ps) := Bs.of (fun x hx => by
  simp only [xs8, List.mem_cons, List.mem_nil_iff, or_false] at hx
  rcases hx with h | h | h | h | h | h | h | h <;> rw [h] <;> exact xe_lt _ _)
theorem xs8_cf (ps : List Nat) {m : Nat} (h : m < 8) : cf (xs8 ps) m = xe ps (m + 1) := by
  match m, h with
  | 0, _ => rfl
  | 1, _ => rfl
  | 2, _ => rfl
  | 3, _ => rfl
  | 4, _ => rfl
  | 5, _ => rfl
  | 6, _ => rfl
  | 7, _ => rfl
theorem synF_turned {c ps : List Nat} (hc : Code c) (h : Pl ps) : synF (flips c ps) = xs8 ps := by
  have hg := (good_turned hc h).eq
  rw [synF_eq]
  unfold xs8 xe
  rw [hg 1 (by omega) (by omega), hg 2 (by omega) (by omega), hg 3 (by omega) (by omega), hg 4 (by omega) (by omega), hg 5 (by omega) (by omega), hg 6 (by omega) (by omega), hg 7 (by omega) (by omega), hg 8 (by omega) (by omega)]
theorem xe_sq (ps : List Nat) (e : Nat) : gmul (xe ps e) (xe ps e) = xe ps (2 * e) := by
  unfold xe
  induction ps with
  | nil => exact gmul_zero 0
  | cons k ps ih =>
    rw [xsum_cons, xsum_cons, sq_sum (E_lt _) (xsum_lt (fun _ _ => E_lt _)), ih, gmul_E]
    congr 2
    rw [Nat.mul_left_comm]
    omega
theorem xe_take {ps : List Nat} {j : Nat} (h : j < ps.length) (e : Nat) : xe (ps.take (j + 1)) e = xe (ps.take j) e ^^^ E (cf ps j * e) := by
  have : ps.take (j + 1) = ps.take j ++ [cf ps j] := by
    rw [List.take_succ_eq_append_getElem h]
    have := cf_get h
    rw [List.getElem?_eq_getElem h] at this
    simp at this
    rw [this]
  unfold xe
  rw [this, xsum_append, xsum_cons, xsum_nil, Nat.xor_zero]

end Go.Proofs.Ytkhpoomajebgoab

namespace Go.Proofs.Ytkhpoomajebgoab
open Go.RowKit

/-- The table of logarithms (of nought: nought). -/
def lgv (x : Nat) : Nat := if x = 0 then 0 else L x
def lgA : Array Value := ((List.range 256).map (fun x => Value.int .i64 ((lgv x : Nat) : Int))).toArray
theorem lgA_size : lgA.size = 256 := by simp [lgA]
theorem lgA_get {i : Nat} (h : i < 256) : lgA[i]? = some (.int .i64 ((lgv i : Nat) : Int)) := by simp [lgA, h]
theorem lgA_cell {w : World} {b k : Nat} (h : w.heap[b]? = some (.cells lgA 65 (0, 0))) (hk : k < 256) : w.cell? ⟨b, k, none⟩ = some (.int .i64 ((lgv k : Nat) : Int)) := by
  have := lgA_get hk
  simp [World.cell?, h, this]
theorem lgA_one : lgA.all (·.oneCell') = true := by
  rw [Array.all_eq_true_iff_forall_mem]
  intro v hv
  simp only [lgA, List.mem_toArray, List.mem_map] at hv
  obtain ⟨i, _, rfl⟩ := hv
  rfl
theorem sizeG : (Try.prog.info? 65).map (·.size) = some 256 := by kernel_rfl

/-- Eight bytes as syndromes. -/
def Sf (s : List Nat) (e : Nat) : Nat := cf s (e - 1)
theorem Sf_zero (s : List Nat) : ZeroS (Sf s) ↔ zb s = true := by
  rw [zb_iff]
  constructor
  · intro h j hj
    have := h (j + 1) (by omega) (by omega)
    simpa [Sf] using this
  · intro h e h1 h8
    exact h (e - 1) (by omega)
theorem Sf_tL (s : List Nat) (k : Nat) {e : Nat} (h1 : 1 ≤ e) (h8 : e ≤ 8) : Sf (tL s k) e = tS (Sf s) k e := by
  unfold Sf tS
  rw [tL_cf s k (by omega), show e - 1 + 1 = e from by omega]
theorem Good.congr {S T : Nat → Nat} {l : List Nat} (h : Good S l) (e : ∀ k, 1 ≤ k → k ≤ 8 → S k = T k) : Good T l := ⟨h.nd, h.lt, fun k h1 h8 => (h.eq k h1 h8).trans (e k h1 h8)⟩
theorem ZeroS.congr {S T : Nat → Nat} (h : ZeroS S) (e : ∀ k, 1 ≤ k → k ≤ 8 → S k = T k) : ZeroS T := fun k h1 h8 => (e k h1 h8).symm.trans (h k h1 h8)
theorem zb_tL (s : List Nat) (k : Nat) : zb (tL s k) = true ↔ ZeroS (tS (Sf s) k) := by
  rw [← Sf_zero]
  exact ⟨fun h => h.congr (fun _ h1 h8 => Sf_tL s k h1 h8), fun h => h.congr (fun _ h1 h8 => (Sf_tL s k h1 h8).symm)⟩
theorem Good_tL {s l : List Nat} {k : Nat} : Good (Sf (tL s k)) l ↔ Good (tS (Sf s) k) l :=
  ⟨fun h => h.congr (fun _ h1 h8 => Sf_tL s k h1 h8), fun h => h.congr (fun _ h1 h8 => (Sf_tL s k h1 h8).symm)⟩

theorem arg_at {w : World} {g o n c : Nat} {s : List Nat} (h : Arg w (.slice (some ⟨g, o, none⟩) n c) g s) {j : Nat} (hj : j < s.length) : w.cell? ⟨g, o + j, none⟩ = some (.int .u8 ((cf s j : Nat) : Int)) := by
  obtain ⟨o', e, hc⟩ := h.cells (fun e => by rw [e] at hj; simp at hj)
  cases e
  exact hc j hj

/-- What single tells. -/
def SingleR (s : List Nat) (r : Int) : Prop := (∃ k : Nat, r = (k : Int) ∧ Good (Sf s) [k]) ∨ (r = -1 ∧ ∀ k, ¬ Good (Sf s) [k])

set_option maxRecDepth 100000 in
set_option maxHeartbeats 8000000 in
theorem single_any (v : Value) (g : Nat) (s : List Nat) (w : World) (hA : Arg w v g s) (hl : s.length = 8) :
    Calls Try.prog 40 #[v, .agg pwA, .agg lgA] w fun e w' => ∃ r : Int, e = .returned (.int .i64 r) ∧ SingleR s r ∧ Below w.heap.size w w' := by
  have HA0 := hide hA
  obtain ⟨⟨ao, c, rfl, hc1, hc2, hnil, hr⟩, hbs⟩ := hA
  obtain ⟨o, rfl⟩ := row_some hr (by omega)
  have HA := hide (show Arg w (.slice (some ⟨g, o, none⟩) 8 c) g s from by rw [← hl]; exact unhide HA0)
  have HL := hide hl
  have hB0 : Below w.heap.size w ((w.alloc (.cells pwA 63)).alloc (.cells lgA 65)) := ((Below.refl _ w).alloc (Nat.le_refl _) _).alloc (by simp) _
  have HB := hide hB0
  have HP : Hid (((w.alloc (.cells pwA 63)).alloc (.cells lgA 65)).heap[w.heap.size]? = some (.cells pwA 63 (0, 0))) := (Below.heap_alloc _ _ _ (by simp)).trans (World.alloc_heap_new w _)
  have HG : Hid (((w.alloc (.cells pwA 63)).alloc (.cells lgA 65)).heap[w.heap.size + 1]? = some (.cells lgA 65 (0, 0))) := by
    have h := World.alloc_heap_new (w.alloc (.cells pwA 63)) (.cells lgA 65)
    rw [World.size_alloc] at h
    exact h
  have hc0 := arg_at ((unhide HA).below hB0) (j := 0) (by omega)
  rw [Nat.add_zero] at hc0
  have hx256 := hbs 0
  obtain ⟨x, hx⟩ : ∃ x, cf s 0 = x := ⟨_, rfl⟩
  rw [hx] at hc0 hx256
  have hS1 : Sf s 1 = x := hx
  have HX := hide hS1
  have hcl := lgA_cell (unhide HG) hx256
  have hx255 : (x : Int) < 256 := by omega
  rw [hl]
  clear hr hnil hl hx hS1 hB0
  by_cases h0 : x = 0
  · subst h0
    have hno : SingleR s (-1) := .inr ⟨rfl, fun k hk => (single_find hk).1 (unhide HX)⟩
    have HN := hide hno
    clear hno
    go_enter Try.func40, Try.ntmps40
    go_wp2
    go_ret
    exact ⟨_, rfl, unhide HN, unhide HB⟩
  · have hlg : lgv x = L x := if_neg h0
    rw [hlg] at hcl
    obtain ⟨y, hy⟩ : ∃ y, L x = y := ⟨_, rfl⟩
    rw [hy] at hcl
    have HY := hide hy
    have hy255 : y < 255 := by rw [← hy]; exact (E_L (by omega) hx256).2
    have hx0 : ((x : Int) == 0) = false := by rw [beq_eq_false_iff_ne]; omega
    clear hlg hy
    by_cases h224 : y < 224
    · have hyd : decide ((224 : Int) ≤ (y : Int)) = false := by rw [decide_eq_false_iff_not]; omega
      have HA2 := hide ((unhide HA).below (unhide HB))
      go_enter Try.func40, Try.ntmps40
      go_wp2_with fail
      refine wp_load_row 63 _ rfl w.heap.size rfl 63 pwA _ _ (unhide HP) Try.underlying63 rfl (by rw [sizeA, pwA_size]) ?_
      rename_i hK0
      refine hK0 _ _ ?_
      (try simp only [Act.put, List.setIfInBounds_toArray, List.set_cons_zero, List.set_cons_succ])
      go_wp2_with fail
      refine (turned_any _ _ s y _ (unhide HA2) (unhide HL) (by omega)).mono ?_
      rintro e w3 ⟨v3, rfl, hF, hk⟩
      obtain ⟨g3, hA3, _⟩ := hF.arg (tL_bs hbs y)
      have HA3 := hide hA3
      have HB3 := hide ((unhide HB).trans (hk.mono (unhide HB).size))
      clear hF hk hA3 hc0 hcl
      go_wp2_with fail
      refine (zero_any _ _ (tL s y) w3 (unhide HA3) (tL_len s y)).mono ?_
      rintro e w4 ⟨rfl, hw4⟩
      subst hw4
      obtain ⟨b, hb⟩ : ∃ b, zb (tL s y) = b := ⟨_, rfl⟩
      have HZB := hide hb
      rw [hb]
      clear hb
      cases b with
      | true =>
        have hg : SingleR s (y : Int) := .inl ⟨y, rfl, by
          have h := single_good (S := Sf s) (by rw [unhide HX, unhide HY]; exact h224) (by rw [unhide HX, unhide HY]; exact (zb_tL s y).1 (unhide HZB))
          rw [unhide HX, unhide HY] at h
          exact h⟩
        have HN := hide hg
        clear hg
        go_wp2
        go_ret
        exact ⟨_, rfl, unhide HN, unhide HB3⟩
      | false =>
        have hno : SingleR s (-1) := .inr ⟨rfl, fun k hk => by
          obtain ⟨_, h2, h3⟩ := single_find hk
          rw [unhide HX, unhide HY] at h2
          rw [← h2] at h3
          have := (zb_tL s y).2 h3
          rw [unhide HZB] at this
          cases this⟩
        have HN := hide hno
        clear hno
        go_wp2
        go_ret
        exact ⟨_, rfl, unhide HN, unhide HB3⟩
    · have hy1 : (224 : Int) ≤ (y : Int) := by omega
      have hno : SingleR s (-1) := .inr ⟨rfl, fun k hk => by
        obtain ⟨_, h2, _⟩ := single_find hk
        rw [unhide HX, unhide HY] at h2
        have := hk.lt k (by simp)
        omega⟩
      have HN := hide hno
      clear hno
      go_enter Try.func40, Try.ntmps40
      go_wp2
      go_ret
      exact ⟨_, rfl, unhide HN, unhide HB⟩

end Go.Proofs.Ytkhpoomajebgoab

namespace Go.Proofs.Ytkhpoomajebgoab
open Go.RowKit

section
variable {P : Program} (w : World)
end

theorem one_iarg (w : World) (k : Nat) : IArg (w.alloc (.cells #[.int .i64 (k : Int)] 3)) (.slice (some ⟨w.heap.size, 0, none⟩) 1 1) w.heap.size [k] :=
  ⟨some ⟨w.heap.size, 0, none⟩, 1, rfl, by simp, by unfold maxLen; omega, (fun h => by cases h), .inr ⟨0, rfl, fun j hj => by
    have : j = 0 := by simpa [ints] using hj
    subst this
    exact (cell_new' w _ _).1⟩⟩

end Go.Proofs.Ytkhpoomajebgoab
