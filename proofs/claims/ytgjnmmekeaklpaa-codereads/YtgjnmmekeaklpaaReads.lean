/-
  The walk of CodeReads.
-/
import Derived.Test.YtgjnmmekeaklpaaRead
import Derived.Test.YtgjnmmekeaklpaaRef
namespace Go.Proofs.Ytgjnmmekeaklpaa
open Go.RowKit

theorem rd_keep {T : TypeId} {S : List Nat} {w w' : World} {R g : Nat} {zs : List Int} {e : Int} (hr : Rd T w R g zs e) (h : Kp S w w') (h1 : R ∉ S) (h2 : zs = [] ∨ g ∉ S) : Rd T w' R g zs e := by
  obtain ⟨hne, ao, cap, hb, hl, hm, hrow⟩ := hr
  refine ⟨hne, ao, cap, h.heap hb h1, hl, hm, ?_⟩
  rcases h2 with h2 | h2
  · exact .inl h2
  · exact hrow.keep h h2

theorem rest_nil (P : Nat) (e : Int) : rest [] P e = [] := by unfold rest; split <;> simp

theorem rest_byt (zs : List Int) (P : Nat) (e : Int) (h : Byt zs) : Byt (rest zs P e) := by
  unfold rest
  split
  · exact fun z hz => h z (List.mem_of_mem_drop hz)
  · simp [Byt]

theorem rest_fail (zs : List Int) (P : Nat) (e f : Int) : rest zs P (if e = 0 then f else e) = if e = 0 ∧ f ≠ 0 then [] else rest zs P e := by
  unfold rest
  by_cases he : e = 0
  · by_cases hf : f = 0 <;> simp [he, hf]
  · simp [he]

/-- Both readers stand at the same place, with the same error; nothing that was there has turned. -/
def Both (w0 w : World) (R q X g : Nat) (ao : Option Addr) (cap : Nat) (zs : List Int) (P : Nat) (e : Int) : Prop :=
  Kp [] w0 w ∧ Rd 49 w R q (rest zs P e) e ∧ Xd w X g ao cap zs P e

/-- Which blocks they lie in. -/
def Apart (w0 : World) (R q X g : Nat) (zs : List Int) : Prop := w0.heap.size ≤ R ∧ w0.heap.size ≤ X ∧ R ≠ X ∧ (zs = [] ∨ q ≠ X) ∧ (zs = [] ∨ g ≠ R)

theorem both_step {w0 w w1 w2 : World} {R q X g : Nat} {ao : Option Addr} {cap : Nat} {zs : List Int} {P P' : Nat} {e e' : Int} {zz : List Int} (ha : Apart w0 R q X g zs) (hb : Both w0 w R q X g ao cap zs P e)
    (hd : Rd 49 w1 R q zz e') (hk : Kp [R] w w1) (hx : Xd w2 X g ao cap zs P' e') (hk2 : Kp [X] w1 w2) (hz : rest zs P' e' = zz) : Both w0 w2 R q X g ao cap zs P' e' := by
  obtain ⟨h1, h2, h3, h4, h5⟩ := ha
  obtain ⟨b1, b2, b3⟩ := hb
  refine ⟨(b1.trans hk (by simpa using h1)).trans hk2 (by simpa using h2), ?_, hx⟩
  rw [hz]
  refine rd_keep hd hk2 (by simpa using h3) ?_
  rcases h4 with rfl | h4
  · rw [← hz]; exact .inl (rest_nil _ _)
  · exact .inr (by simpa using h4)

theorem both_x {w0 w w1 : World} {R q X g : Nat} {ao : Option Addr} {cap : Nat} {zs : List Int} {P : Nat} {e : Int} (ha : Apart w0 R q X g zs) (hb : Both w0 w R q X g ao cap zs P e) (hk : Kp [R] w w1) : Xd w1 X g ao cap zs P e := by
  obtain ⟨h1, h2, h3, h4, h5⟩ := ha
  refine hb.2.2.keep hk (by simpa using fun h => h3 h.symm) ?_
  rcases h5 with h5 | h5
  · exact .inl h5
  · exact .inr (by simpa using h5)

set_option maxHeartbeats 4000000 in
theorem reads_walk (a : Option Addr) (g len cap : Nat) (zs : List Int) (b : Option Addr) (h n c : Nat) (asks : List Int) (w : World) (hl : zs.length = len) (hlc : len ≤ cap) (hr : Row w a g zs) (hb : Byt zs)
    (hnil : a = none → len = 0 ∧ cap = 0)
    (hn : asks.length = n) (hm : n ≤ maxLen) (hi : IRow w b h asks) (hw : ∀ z ∈ asks, -9223372036854775808 ≤ z ∧ z ≤ 9223372036854775807) :
    Calls Try.prog 4 #[.slice a len cap, .slice b n c] w fun x w' => x = .returned (.bool true) ∧ Below w.heap.size w w' := by
  have HR := hide hr
  have HL := hide hl
  have HB := hide hb
  have HI := hide hi
  have HN := hide hn
  have HW := hide hw
  have HNL := hide hnil
  clear hr hl hb hi hn hw hnil
  unfold maxLen at hm
  by_cases h100 : 100 < len
  · go_enter Try.func4, Try.ntmps4
    go_wp2_with fail
    refine (known_any w).mono ?_
    rintro x w1 ⟨rfl, hk1⟩
    have HK1 := hide hk1
    clear hk1
    go_wp2
    go_ret
    exact ⟨rfl, (unhide HK1).below⟩
  · go_enter Try.func4, Try.ntmps4
    go_wp2_with fail
    refine (known_any w).mono ?_
    rintro x w1 ⟨rfl, hk1⟩
    have HR1 := hide ((unhide HR).keep hk1 (by simp))
    have HI1 := hide ((unhide HI).keep hk1 (by simp))
    have HK1 := hide hk1
    clear hk1
    obtain ⟨i0, hi0, hz0, hz1, hz2⟩ := info_parts infoE
    have hw1 := (unhide HK1).size
    have HR2 := hide (show Row (w1.alloc (.cells #[] 5)) a g zs from (unhide HR1).keep ((Kp.refl [] _).alloc _) (by simp))
    have HO2 := hide (World.ownsRow_lit (base := w1.heap.size) (e := 5) (size := 1) w1 #[] 0 (Nat.le_refl _) (by unfold maxLen; omega) rfl)
    go_wp2_with (at_builtin; refine wpList_append_row _ rfl _ _ 22 rfl w1.heap.size 5 i0 Try.underlying22 hi0 hz0 hz1 hz2 (.slice (some ⟨w1.heap.size, 0, none⟩) 0 0) 0 [] rfl (unhide HO2) a g len cap zs rfl (unhide HL) (unhide HR2) (unhide HNL) (by omega) (by simp) ?_)
    intro v3 w3 ho3 hg3 hv3
    obtain ⟨q3, c3, rfl, hq3, hq3'⟩ := owns_shape ho3 hv3
    have hk3 : Kp [] w w3 := ((unhide HK1).alloc _).grown hg3 (by intro k hk; cases hk; exact .inr hw1)
    have hz3 := hk3.size
    have HR3 := hide (row_of_owns ho3)
    have HK3 := hide hk3
    clear ho3 hg3 hv3 hk3 HO2 HR2
    go_wp2_with fail
    refine (new_any (some ⟨q3, 0, none⟩) q3 len c3 zs w3 (by omega) (unhide HL) (unhide HR3)).mono ?_
    rintro x w4 ⟨R, q, rfl, hR, hq, hd4, hk4⟩
    have hR4 : R < w4.heap.size := lt_of_block hd4.2.choose_spec.choose_spec.1
    have hz4 := hk4.size
    have HK4 := hide ((unhide HK3).trans hk4 (by simp))
    have HD4 := hide hd4
    have hq4 : q < w4.heap.size ∨ zs = [] := by
      obtain ⟨_, ao, cc, _, _, _, hrow⟩ := hd4
      rcases hrow with h0 | ⟨o, rfl, hc⟩
      · exact .inr h0
      · cases zs with
        | nil => exact .inr rfl
        | cons z r => exact .inl (block_lt_of_cell (hc 0 (by simp)))
    have HQ4 := hide hq4
    clear hd4 hk4 hq4
    have HR4 := hide ((unhide HR).keep (unhide HK4) (by simp))
    have HL' : Hid (Value.slice a zs.length cap = Value.slice a len cap) := by show _ = _; rw [unhide HL]
    go_wp2_with fail
    rw [← unhide HL']
    refine (xnew_any a g cap zs w4 (by rw [unhide HL]; omega) (by rw [unhide HL]; exact hlc) (unhide HR4)).mono ?_
    rintro x w5 ⟨rfl, hx5, hk5⟩
    have HX5 := hide hx5
    have HD5 := hide ((unhide HD4).keep hk5 (by simp) (by simp))
    have HK5 := hide ((unhide HK4).trans hk5 (by simp))
    clear hx5 hk5
    obtain ⟨X, hX⟩ : ∃ X, X = w4.heap.size := ⟨_, rfl⟩
    rw [← hX] at HX5 ⊢
    have hXw : w.heap.size ≤ X := by rw [hX]; omega
    have hRX : R ≠ X := by rw [hX]; omega
    have hap : Apart w R q X g zs := by
      refine ⟨by omega, hXw, hRX, ?_, ?_⟩
      · rcases unhide HQ4 with h0 | h0
        · exact .inr (by rw [hX]; omega)
        · exact .inl h0
      · rcases unhide HR with h0 | ⟨o, rfl, h0⟩
        · exact .inl h0
        · cases zs with
          | nil => exact .inl rfl
          | cons z r => exact .inr (by have : g < _ := block_lt_of_cell (h0 0 (by simp)); omega)
    have HAP := hide hap
    have HBO : Hid (Both w w5 R q X g a cap zs 0 0) := ⟨unhide HK5, by rw [show rest zs 0 0 = zs from by simp [rest]]; exact unhide HD5, unhide HX5⟩
    clear hX hap HD5 HX5 HK5 HD4 HQ4 HK4 HR4 HR3 HK3 HR1 HI1 HK1 hRX hXw hR hq hR4 hz4 hq3 hq3' hz3 hw1 HNL
    go_wp2_with fail
    go_loopw [7] (fun i wr => ∃ k P : Nat, ∃ e : Int, k ≤ n ∧ k ≤ 20 ∧ i = .int .i64 k ∧ Both w wr R q X g a cap zs P e) (fun i _ => 20 - (intOf i).toNat)
    case atStart => exact ⟨0, 0, 0, by omega, by omega, rfl, unhide HBO⟩
    case round =>
      obtain ⟨k, P, e, hkn, hk20, rfl, hbo⟩ := hrel
      have HBR := hide hbo
      clear hbo HBO
      by_cases hlt : k < n ∧ k < 20
      · obtain ⟨hlt1, hlt2⟩ := hlt
        obtain ⟨o, rfl, hask⟩ : ∃ o, b = some ⟨h, o, none⟩ ∧ ∀ j, j < asks.length → w.cell? ⟨h, o + j, none⟩ = some (.int .i64 (asks.getD j 0)) := by
          rcases unhide HI with h0 | h0
          · have := unhide HN; rw [h0] at this; simp at this; omega
          · exact h0
        have hck := (unhide HBR).1.cell (hask k (by rw [unhide HN]; exact hlt1)) (by simp)
        have hh : h < w.heap.size := block_lt_of_cell (hask k (by rw [unhide HN]; exact hlt1))
        clear hask
        generalize asks.getD k 0 = z at *
        go_wp2_with fail
        refine (within_any z 8 wr (by omega) (by omega)).mono ?_
        rintro x w' ⟨rfl, rfl⟩
        have ht0 := Int.emod_nonneg z (show (8 : Int) ≠ 0 by omega)
        have ht1 := Int.emod_lt_of_pos z (show (0 : Int) < 8 by omega)
        generalize z % 8 = t at *
        have hcase : (t = 0 ∨ t = 1 ∨ t = 2) ∨ (t = 3 ∨ t = 4 ∨ t = 5 ∨ t = 6) ∨ t = 7 := by omega
        rcases hcase with hc | hc | rfl
        · rcases hc with rfl | rfl | rfl
          all_goals
            go_wp2_with fail
            refine (rint_any R q (rest zs P e) e _ (rest_byt _ _ _ (unhide HB)) (unhide HBR).2.1).mono ?_
            rintro x w6 ⟨rfl, hd6, hk6⟩
            have HX6 := hide (both_x (unhide HAP) (unhide HBR) hk6)
            have HD6 := hide hd6
            have HK6 := hide hk6
            clear hd6 hk6
            go_wp2_with fail
            refine (xint_any X g a cap zs P e w6 (unhide HB) (unhide HX6)).mono ?_
            rintro x w7 ⟨rfl, ⟨P', hx7, hz7⟩, hk7⟩
            have HBN := hide (both_step (unhide HAP) (unhide HBR) (unhide HD6) (unhide HK6) hx7 hk7 hz7)
            clear hx7 hz7 hk7 HD6 HK6 HX6
            generalize rdV 8 (rest zs P e) = V at *
            generalize rdE 8 (rest zs P e) e = e' at *
            go_wp2
            go_roundw
            case rel => exact ⟨k + 1, P', e', by omega, by omega, by go_num, unhide HBN⟩
            case measure => simp [intOf]; omega
        · rcases hc with rfl | rfl | rfl | rfl
          all_goals
            go_wp2_with fail
            refine (rbyte_any R q (rest zs P e) e _ (rest_byt _ _ _ (unhide HB)) (unhide HBR).2.1).mono ?_
            rintro x w6 ⟨rfl, hd6, hk6⟩
            have HX6 := hide (both_x (unhide HAP) (unhide HBR) hk6)
            have HD6 := hide hd6
            have HK6 := hide hk6
            clear hd6 hk6
            go_wp2_with fail
            refine (xbyte_any X g a cap zs P e w6 (unhide HB) (unhide HX6)).mono ?_
            rintro x w7 ⟨rfl, ⟨P', hx7, hz7⟩, hk7⟩
            have HBN := hide (both_step (unhide HAP) (unhide HBR) (unhide HD6) (unhide HK6) hx7 hk7 hz7)
            clear hx7 hz7 hk7 HD6 HK6 HX6
            generalize rdV 1 (rest zs P e) = V at *
            generalize rdE 1 (rest zs P e) e = e' at *
            go_wp2
            go_roundw
            case rel => exact ⟨k + 1, P', e', by omega, by omega, by go_num, unhide HBN⟩
            case measure => simp [intOf]; omega
        · go_wp2_with fail
          refine (within_any _ 12 _ (by omega) (by omega)).mono ?_
          rintro x w'' ⟨rfl, rfl⟩
          generalize hf : wrap64 (z.tdiv 8) % 12 = f at *
          have HF := hide hf
          clear hf
          go_wp2_with fail
          refine (fail_any R q (rest zs P e) e f _ (unhide HBR).2.1).mono ?_
          rintro x w6 ⟨rfl, hd6, hk6⟩
          have HX6 := hide (both_x (unhide HAP) (unhide HBR) hk6)
          have HD6 := hide hd6
          have HK6 := hide hk6
          have hck6 : w6.cell? ⟨h, o + k, none⟩ = some (.int .i64 z) := hk6.cell hck (by have := (unhide HAP).1; simp; omega)
          clear hd6 hk6
          go_wp2_with fail
          refine (within_any _ 12 _ (by omega) (by omega)).mono ?_
          rintro x w7 ⟨rfl, rfl⟩
          rw [unhide HF]
          obtain ⟨e', he'⟩ : ∃ e', (if e = 0 then f else e) = e' := ⟨_, rfl⟩
          obtain ⟨zz, hzz⟩ : ∃ zz, (if e = 0 ∧ f ≠ 0 then [] else rest zs P e) = zz := ⟨_, rfl⟩
          have HRF := hide (rest_fail zs P e f)
          rw [he', hzz] at HD6 HRF
          have HE := hide he'
          clear he' hzz
          go_wp2_with fail
          refine (xfail_any X g a cap zs P e f _ (unhide HX6)).mono ?_
          rintro x w8 ⟨rfl, hx8, hk8⟩
          rw [unhide HE] at hx8
          have HBN := hide (both_step (unhide HAP) (unhide HBR) (unhide HD6) (unhide HK6) hx8 hk8 (unhide HRF))
          clear hx8 hk8 HD6 HK6 HX6
          go_wp2
          go_roundw
          case rel => exact ⟨k + 1, P, e', by omega, by omega, by go_num, unhide HBN⟩
          case measure => simp [intOf]; omega
      · have hlt' : n ≤ k ∨ (k < n ∧ 20 ≤ k) := by omega
        clear hlt
        obtain ⟨V, hV⟩ : ∃ V, (if e = 0 ∧ rest zs P e ≠ [] then (4 : Int) else e) = V := ⟨_, rfl⟩
        have HV := hide hV
        clear hV
        rcases hlt' with hlt | ⟨hlt, hlt2⟩
        all_goals
          go_wp2_with fail
          refine (end_any R q (rest zs P e) e _ (unhide HBR).2.1).mono ?_
          rintro x w6 ⟨rfl, rfl⟩
          rw [unhide HV]
          go_wp2_with fail
          refine (xend_any X g a cap zs P e _ (unhide HBR).2.2).mono ?_
          rintro x w7 ⟨rfl, hk7⟩
          have HK7 := hide ((unhide HBR).1.trans hk7 (by simp))
          clear hk7
          rw [unhide HV]
          go_wp2
          go_ret
          exact ⟨rfl, (unhide HK7).below⟩

end Go.Proofs.Ytgjnmmekeaklpaa
