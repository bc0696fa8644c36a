/-
  What a law asks of its acts: Few; which blocks are bad: Spoil.
  What a law asks of both tellings: Pages.
  (Act).Do: what it stands on.
-/
import Derived.Test.YtnondiaefpdlpaaO8
import Derived.Test.YtnondiaefpdlpaaH7
import Derived.Test.YtnondiaefpdlpaaU7u
import Derived.Test.YtnondiaefpdlpaaMb
import Derived.Test.YtnondiaefpdlpaaBa
namespace Go.Proofs.Ytnondiaefpdlpaa
open Go.RowKit Go.Shelf

theorem AArg.len {w : World} {ao : Option Addr} {n c g : Nat} {l : List AD} (h : AArg w (.slice ao n c) g l) : l.length = n ∧ c ≤ maxLen ∧ n ≤ c := by
  obtain ⟨ao', c', h1, h2, h3, h4⟩ := h
  cases h1
  exact ⟨rfl, h3, h2⟩
/-- The i-th act. -/
theorem AArg.at {w : World} {ao : Option Addr} {n c g : Nat} {l : List AD} (h : AArg w (.slice ao n c) g l) {i : Nat} (hi : i < n) : ∃ o a, ao = some ⟨g, o, none⟩ ∧ l[i]? = some a ∧ (∀ j v, a.arr[j]? = some v → w.cell? ⟨g, o + i * 7 + j, none⟩ = some v) ∧ a.Ok w := by
  have hl := h.len.1
  obtain ⟨ao', c', h1, h2, h3, h4⟩ := h
  cases h1
  obtain ⟨o, h5, h6⟩ := h4 (fun e => by rw [e] at hi; simp at hi)
  obtain ⟨h7, h8⟩ := h6 i _ (List.getElem?_eq_getElem hi)
  exact ⟨o, _, h5, List.getElem?_eq_getElem hi, h7, h8⟩
theorem AArg.lt {w : World} {ao : Option Addr} {n c g : Nat} {l : List AD} (h : AArg w (.slice ao n c) g l) (hn : 0 < n) : g < w.heap.size := by
  obtain ⟨o, a, _, _, h1, _⟩ := h.at hn
  exact block_lt_of_cell (h1 0 _ rfl)
theorem ZArg.lt7 {w : World} {v : Value} {g : Nat} {zs : List Int} (h : ZArg w v g zs) (hs : zs ≠ []) : g < w.heap.size := by
  obtain ⟨⟨ao, c, _, _, _, _, h5⟩, _⟩ := h
  obtain ⟨o, _, h6⟩ := irow_some' h5 (List.length_pos_iff.2 hs)
  exact block_lt_of_cell (h6 0 (List.length_pos_iff.2 hs))

/-- What Few answers. -/
def FewP (n : Nat) (l : List AD) (e : Ending) : Prop := ∃ r : Bool, e = .returned (.bool r) ∧ (r = true → n ≤ 60 ∧ ∀ (i : Nat) (a : AD), l[i]? = some a → a.bn ≤ 100 ∧ a.ln ≤ 20)
set_option maxRecDepth 100000 in
set_option maxHeartbeats 8000000 in
theorem few_any (w : World) (ao : Option Addr) (n c g : Nat) (l : List AD) (h : AArg w (.slice ao n c) g l) :
    Calls Try.prog 10 #[.slice ao n c] w fun e w' => w' = w ∧ FewP n l e := by
  have HA := hide h
  have HL := hide h.len
  have hn1 : (n : Int) ≤ 9223372036854775807 := by have := h.len; unfold maxLen at this; omega
  clear h
  go_enter Try.func10, Try.ntmps10
  go_wp2_with fail
  go_loopw [3] (fun q wr => ∃ i : Nat, q = .int .i64 i ∧ i ≤ n ∧ wr = w ∧ Hid (∀ (j : Nat) (a : AD), j < i → l[j]? = some a → a.bn ≤ 100 ∧ a.ln ≤ 20)) (fun q _ => n - (intOf q).toNat)
  case atStart => exact ⟨0, rfl, by omega, rfl, fun j a h => by omega⟩
  case round =>
    obtain ⟨i, rfl, hi, hwr, HF⟩ := hrel
    subst hwr
    by_cases hlt : i < n
    · have hi1 : (i : Int) < (n : Int) := by omega
      obtain ⟨o, a, hao, hla, hcs, hok⟩ := (unhide HA).at hlt
      subst hao
      have c5 : wr.cell? ⟨g, o + i * 7 + 5, none⟩ = some (.slice a.bo a.bn a.bc) := hcs 5 _ rfl
      have c6 : wr.cell? ⟨g, o + i * 7 + 6, none⟩ = some (.slice a.lo a.ln a.lc) := hcs 6 _ rfl
      have HLA := hide hla
      clear hcs hok hla
      by_cases hb : 100 < (a.bn : Int)
      · go_wp2_with fail
        go_returns
        exact ⟨rfl, false, rfl, fun h => by cases h⟩
      · by_cases hl : 20 < (a.ln : Int)
        · go_wp2_with fail
          go_returns
          exact ⟨rfl, false, rfl, fun h => by cases h⟩
        · have HF2 : Hid (∀ (j : Nat) (a : AD), j < i + 1 → l[j]? = some a → a.bn ≤ 100 ∧ a.ln ≤ 20) := fun j a' hj hja => by
            by_cases e : j = i
            · subst e
              rw [unhide HLA] at hja
              cases hja
              exact ⟨by omega, by omega⟩
            · exact unhide HF j a' (by omega) hja
          clear HF
          go_wp2_with fail
          go_roundw
          case rel => exact ⟨i + 1, by go_num, by omega, by trivial, HF2⟩
          case measure => simp [intOf]; omega
    · have hi1 : (n : Int) ≤ (i : Int) := by omega
      go_wp2_with fail
      go_returns
      refine ⟨rfl, decide ((n : Int) ≤ 60), rfl, fun h => ?_⟩
      have h60 := of_decide_eq_true h
      exact ⟨by omega, fun j a hja => unhide HF j a (by have := (List.getElem?_eq_some_iff.1 hja).1; have := unhide HL; omega) hja⟩

end Go.Proofs.Ytnondiaefpdlpaa

namespace Go.Proofs.Ytnondiaefpdlpaa
open Go.RowKit Go.Shelf

set_option maxRecDepth 100000 in
set_option maxHeartbeats 8000000 in
theorem pages_any {m : Nat} {w : World} {L : La} {L' : Lr} {s : Nd} (h : NA m w L s) (h' : RA m w L' s) :
    Calls Try.prog 19 #[.pointer (some ⟨L.n, 0, none⟩), .pointer (some ⟨L'.n, 0, none⟩)] w fun e w' => e = .returned (.bool true) ∧ (∃ s', s.Geo s' ∧ NA m w' L s' ∧ RA m w' L' s') ∧ Below m w w' := by
  have hD8 : (s.D : Int) ≤ 8 := by have := h.ok.d; omega
  have hB12 : (s.B : Int) ≤ 12 := by have := h.ok.b; omega
  have hP8 : (s.P : Int) ≤ 8 := by have := h.ok.p; omega
  have HG := hide (Geo.refl s)
  have HN := hide h
  have HR := hide h'
  clear h h'
  go_enter Try.func19, Try.ntmps19
  go_wp2_with fail
  go_loopw [5] (fun q5 wr => ∃ (d : Nat) (s' : Nd), q5 = .int .i64 d ∧ d ≤ s.D ∧ Hid (s.Geo s') ∧ Hid (NA m wr L s') ∧ Hid (RA m wr L' s') ∧ Hid (Below m w wr)) (fun q5 _ => s.D - (intOf q5).toNat)
  case atStart => exact ⟨0, s, rfl, by omega, HG, HN, HR, Below.refl _ _⟩
  case round =>
    clear HG HN HR
    obtain ⟨d, s1, rfl, hd, HG, HN, HR, HB⟩ := hrel
    have c0 : wr.cell? ⟨L'.n, 0, none⟩ = some (.int .i64 (s.D : Int)) := by
      rw [← (unhide HG).1]
      exact (unhide HR).tc 0 rfl
    by_cases hdD : d < s.D
    · have hd1 : (d : Int) < (s.D : Int) := by omega
      go_wp2_with fail
      clear c0
      go_loopw [6] (fun q6 wr => ∃ (b : Nat) (s' : Nd), q6 = .int .i64 b ∧ b ≤ s.B ∧ Hid (s.Geo s') ∧ Hid (NA m wr L s') ∧ Hid (RA m wr L' s') ∧ Hid (Below m w wr)) (fun q6 _ => s.B - (intOf q6).toNat)
      case atStart => exact ⟨0, s1, rfl, by omega, HG, HN, HR, HB⟩
      case round =>
        clear HG HN HR HB
        rename_i wr1 _
        obtain ⟨b, s2, rfl, hb, HG, HN, HR, HB⟩ := hrel
        have c1 : wr.cell? ⟨L'.n, 1, none⟩ = some (.int .i64 (s.B : Int)) := by
          rw [← (unhide HG).2.1]
          exact (unhide HR).tc 1 rfl
        by_cases hbB : b < s.B
        · have hb1 : (b : Int) < (s.B : Int) := by omega
          go_wp2_with fail
          clear c1
          go_loopw [7, 8, 9, 10, 11] (fun q7 _ _ _ _ wr => ∃ (p : Nat) (s' : Nd), q7 = .int .i64 p ∧ p ≤ s.P ∧ Hid (s.Geo s') ∧ Hid (NA m wr L s') ∧ Hid (RA m wr L' s') ∧ Hid (Below m w wr)) (fun q7 _ _ _ _ _ => s.P - (intOf q7).toNat)
          case atStart => exact ⟨0, s2, rfl, by omega, HG, HN, HR, HB⟩
          case round =>
            clear HG HN HR HB
            obtain ⟨p, s3, rfl, hp, HG, HN, HR, HB⟩ := hrel
            have c2 : wr.cell? ⟨L'.n, 2, none⟩ = some (.int .i64 (s.P : Int)) := by
              rw [← (unhide HG).2.2]
              exact (unhide HR).tc 2 rfl
            by_cases hpP : p < s.P
            · have hp1 : (p : Int) < (s.P : Int) := by omega
              go_wp2_with fail
              clear c2
              refine (read_u (unhide HN) _ _ _).mono ?_
              rintro e w1 ⟨v1, rfl, hF1, hN1, hK1⟩
              obtain ⟨o1, k1, hv1⟩ := hF1.shape
              obtain ⟨n1, hn1⟩ : ∃ n, (s3.rVal d b p).length = n := ⟨_, rfl⟩
              rw [hn1] at hv1
              subst hv1
              have HR1 := hide ((unhide HR).kn hK1)
              have HN1 := hide hN1
              have HF1 := hide hF1
              have HB1 := hide ((unhide HB).trans hK1.below)
              clear hF1 hN1 hK1 HN HR HB
              go_wp2_with fail
              refine (rread_u (unhide HR1) _ _ _).mono ?_
              rintro e w2 ⟨v2, rfl, hF2, hN2, hK2⟩
              obtain ⟨o2, k2, hv2⟩ := hF2.shape
              rw [hn1] at hv2
              subst hv2
              have hbs := rVal_bs (unhide HR1).ok d b p
              obtain ⟨g1, hA1, _⟩ := ((unhide HF1).lie hK2.lie (by decide)).arg hbs
              obtain ⟨g2, hA2, _⟩ := hF2.arg hbs
              have hcv1 := conv_arg hA1
              have hcv2 := conv_arg hA2
              obtain ⟨st, hst⟩ : ∃ st, strOf (ints (s3.rVal d b p)) = st := ⟨_, rfl⟩
              rw [hst] at hcv1 hcv2
              have HNN := hide ((unhide HN1).kr hK2)
              have HRR := hide hN2
              have HBB := hide ((unhide HB1).trans hK2.below)
              have HGG := hide (Geo.trans (unhide HG) (geo_r s3 d b p))
              clear hst hA1 hA2 hbs hF2 hN2 hK2 hn1 HF1 HN1 HR1 HB1
              go_wp2_with fail
              clear hcv1 hcv2
              go_roundw
              case rel => exact ⟨p + 1, _, by go_num, by omega, HGG, HNN, HRR, HBB⟩
              case measure => simp [intOf]; omega
            · have hp1 : (s.P : Int) ≤ (p : Int) := by omega
              go_wp2_with fail
              clear c2
              go_roundw
              case rel => exact ⟨b + 1, s3, by go_num, by omega, HG, HN, HR, HB⟩
              case measure => simp [intOf]; omega
        · have hb1 : (s.B : Int) ≤ (b : Int) := by omega
          go_wp2_with fail
          clear c1
          go_roundw
          case rel => exact ⟨d + 1, s2, by go_num, by omega, HG, HN, HR, HB⟩
          case measure => simp [intOf]; omega
    · have hd1 : (s.D : Int) ≤ (d : Int) := by omega
      go_wp2_with fail
      go_returns
      exact ⟨rfl, ⟨s1, unhide HG, unhide HN, unhide HR⟩, unhide HB⟩

end Go.Proofs.Ytnondiaefpdlpaa

namespace Go.Proofs.Ytnondiaefpdlpaa
open Go.RowKit Go.Shelf

noncomputable def doB : Code := Try.f15.body.getD .skip
def sL : Code → Code
  | .seq a _ => a
  | c => c
def sR : Code → Code
  | .seq _ b => b
  | c => c
def cT : Code → Code
  | .cond _ a _ => a
  | c => c
def cE : Code → Code
  | .cond _ _ b => b
  | c => c
def bI : Code → Code
  | .block _ a => a
  | c => c
noncomputable def doT : Code := sR (sR (sR (sR doB)))
noncomputable def doW : Code := bI (sR (sL doT))
noncomputable def do16 : Code := sL (sR (cT (sR doW)))
noncomputable def e17 : Code := sR (cE (sR doW))
noncomputable def do18 : Code := sL (cT e17)
noncomputable def e22 : Code := cE (sR (cE e17))
noncomputable def e26 : Code := cE (sR e22)
noncomputable def do27 : Code := sL (cT (sR e26))
noncomputable def e28 : Code := cE (sR e26)
noncomputable def do29 : Code := sL (cT (sR e28))
noncomputable def do30 : Code := sR (cT (sR e28))

/-- The act in its box, its rows below m. -/
structure DoW (m : Nat) (w W : World) (a : AD) (box : Nat) : Prop where
  bx : W.heap[box]? = some (.cells a.arr 40 (0, 0))
  ab : Arg W (.slice a.bo a.bn a.bc) a.gb a.x
  al : ZArg W (.slice a.lo a.ln a.lc) a.gl a.z
  sb : a.x ≠ [] → a.gb < m
  sl : a.z ≠ [] → a.gl < m
  be : Below m w W
  nb : a.bn ≤ 100
  nl : a.ln ≤ 20
theorem ZArg.low {m g : Nat} {w w' : World} {v : Value} {zs : List Int} (h : ZArg w v g zs) (k : Below m w w') (hg : zs ≠ [] → g < m) : ZArg w' v g zs := by
  obtain ⟨⟨ao, c, h1, h2, h3, h4, h5⟩, h6⟩ := h
  refine ⟨⟨ao, c, h1, h2, h3, h4, ?_⟩, h6⟩
  rcases h5 with h5 | ⟨o, ho, hc⟩
  · exact .inl h5
  · by_cases hz : zs = []
    · exact .inl hz
    · exact .inr ⟨o, ho, fun j hj => (k.cell (hg hz)).trans (hc j hj)⟩
theorem DoW.sfe {m : Nat} {w W : World} {a : AD} {box : Nat} (h : DoW m w W a box) : Sfe m W a.gb a.x := fun e => .inl (h.sb e)
theorem mine_tc : mineO (.cells #[] 40 (0, 0)) = false := by decide
theorem mineR_tc : mineR 40 = false := by decide
theorem DoW.kn {m : Nat} {w W W' : World} {a : AD} {box : Nat} (h : DoW m w W a box) (k : Kn m W W') : DoW m w W' a box :=
  ⟨k.oth box _ h.bx mine_tc, h.ab.safe h.sfe k, h.al.low k.below h.sl, h.sb, h.sl, h.be.trans k.below, h.nb, h.nl⟩
theorem DoW.kr {m : Nat} {w W W' : World} {a : AD} {box : Nat} (h : DoW m w W a box) (k : Kr m W W') : DoW m w W' a box :=
  ⟨k.oth box _ _ mineR_tc h.bx, h.ab.kr h.sfe k, h.al.low k.below h.sl, h.sb, h.sl, h.be.trans k.below, h.nb, h.nl⟩
theorem DoW.below {m : Nat} {w W W' : World} {a : AD} {box : Nat} (h : DoW m w W a box) (k : Below W.heap.size W W') (hm : m < W.heap.size) : DoW m w W' a box := h.kn (Kn.of_below k (Nat.le_of_lt hm))
theorem DoW.drew {m : Nat} {w W : World} {a : AD} {box : Nat} (h : DoW m w W a box) : DoW m w W.drew a box := h.kn (Kn.refl _ _).drew
/-- What is there when the act is done. -/
def DoPost (m : Nat) (w : World) (N N' : Nat) (s : Nd) (W' : World) : Prop := ∃ L1 L1' s', L1.n = N ∧ L1'.n = N' ∧ s.Geo s' ∧ NA m W' L1 s' ∧ RA m W' L1' s' ∧ Below m w W'

end Go.Proofs.Ytnondiaefpdlpaa
