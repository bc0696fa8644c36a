/-
  The walk of PageSizes.
-/
import Derived.Test.YtkhpoomajebgoaaMaz
namespace Go.Proofs.Ytkhpoomajebgoaa
open Go.RowKit Go.Shelf

set_option maxRecDepth 100000 in
set_option maxHeartbeats 8000000 in
theorem psizes_walk (va : Value) (ga : Nat) (b : List Nat) (z : Int) (w : World) (hA : Arg w va ga b) :
    Calls Try.prog 8 #[va, .int .i64 z] w fun x w' => x = .returned (.bool true) ∧ Below w.heap.size w w' := by
  have HA := hide hA
  have hbb := hA.bs
  obtain ⟨⟨ao, c, rfl, _⟩, _⟩ := hA
  obtain ⟨n, hn⟩ : ∃ n : Nat, z % 80 = (n : Int) := ⟨(z % 80).toNat, by omega⟩
  have hn80 : n < 80 := by omega
  have hmk : ∀ w : World, (Instr.makeSlice 22 (.int .i64 (n : Int)) (.int .i64 (n : Int))).run Try.prog w = .ok (.slice (some ⟨w.heap.size, 0, none⟩) n n) (w.alloc (.cells (List.replicate n (Value.int .u8 0)).toArray 5)) := run_zeros n (by omega)
  have HBL := hide (fun W : World => blk_zeros n W)
  obtain ⟨z0, hz0⟩ : ∃ z, (List.replicate n (Value.int .u8 0)).toArray = z := ⟨_, rfl⟩
  rw [hz0] at HBL
  simp only [hz0] at hmk
  clear hz0
  go_enter Try.func8, Try.ntmps8
  go_wp2_with fail
  refine (known8_any _).mono ?_
  rintro e w1 ⟨rfl, hk⟩
  replace HA := hide ((unhide HA).below hk)
  have HT := hide hk
  clear hk
  go_wp2_with fail
  refine (within8_any z 80 _ (by omega) (by omega)).mono ?_
  rintro e w2 ⟨rfl, hwk⟩
  rw [hn]
  have HB2 := hide (unhide HBL w2)
  have HA2 : Hid (Arg (w2.alloc (.cells z0 5)) (.slice ao b.length c) ga b) := by rw [hwk]; exact (unhide HA).below ((Below.refl _ _).alloc (Nat.le_refl _) _)
  have HT2 : Hid (Below w.heap.size w (w2.alloc (.cells z0 5))) := by rw [hwk]; exact (unhide HT).alloc (unhide HT).size _
  have hzw : w.heap.size ≤ w2.heap.size := by rw [hwk]; exact (unhide HT).size
  obtain ⟨w3, hcp, hB3, hK3⟩ := copy_blk (w2.alloc (.cells z0 5)) w2.heap.size n (List.replicate n 0) (unhide HB2) ao b.length c ga b (unhide HA2) 3
  rw [List.length_replicate] at hcp
  clear hwk HB2 HA2 HA HT HBL
  have hdl : (copyF (List.replicate n 0) b).length = n := by rw [copyF_len, List.length_replicate]
  have hdb : Bs (copyF (List.replicate n 0) b) := copyF_bs (bs_zeros n) hbb
  have HD : Hid (Arg w3 (.slice (some ⟨w2.heap.size, 0, none⟩) n n) w2.heap.size (copyF (List.replicate n 0) b)) := by
    have h := hB3.arg (c := n) hdb (by omega) (by unfold maxLen; omega)
    rwa [hdl] at h
  have HT3 : Hid (Below w.heap.size w w3) := (unhide HT2).trans ⟨hK3.os, hK3.tape, hK3.output, hK3.size, fun k hk => hK3.block k (by simp; omega) (by simp; omega)⟩
  obtain ⟨d, hd⟩ : ∃ d, copyF (List.replicate n 0) b = d := ⟨_, rfl⟩
  rw [hd] at hdl hdb HD
  clear hB3 hK3 hd HT2
  have hzw3 := (unhide HT3).size
  go_wp2_with fail
  refine (pdecode_any _ _ d _ (unhide HD)).mono ?_
  rintro e w4 ⟨v4, rfl, hF, hk⟩
  have HT4 := hide ((unhide HT3).trans (hk.mono hzw3))
  replace HD := hide ((unhide HD).below hk)
  obtain ⟨st, hst⟩ : ∃ st, pageD d = st := ⟨_, rfl⟩
  rw [hst] at hF ⊢
  obtain ⟨to, tc, hv⟩ := Fr.shape hF
  subst hv
  clear hF hk HT3 hcp hmk
  obtain ⟨s1, s2⟩ := st
  dsimp only
  have HA5 := hide ((unhide HD).below ((Below.refl _ w4).alloc (Nat.le_refl _) (.cells #[.int .i64 s1, .slice to s2.length tc] 32)))
  have HT5 := hide ((unhide HT4).alloc (unhide HT4).size (.cells #[.int .i64 s1, .slice to s2.length tc] 32))
  have HP5 := hide (PgB.new w4 (.int .i64 s1) (.slice to s2.length tc))
  have hzw5 := (unhide HT5).size
  by_cases h48 : n = 48
  · subst h48
    have hs : ((1 : Int), ([] : List Nat)) = (s1, s2) := by rw [← hst, pageD, if_pos (by rw [hdl]; decide)]
    cases hs
    clear hn
    go_wp2_with fail
    refine (pencode_any _ _ d _ (unhide HA5) hdl).mono ?_
    rintro e w6 ⟨v6, rfl, hF, hk⟩
    have HT6 := hide ((unhide HT5).trans (hk.mono hzw5))
    have HP6 := hide (PgB.below (unhide HP5) hk)
    have hc0 := PgB.c0 (unhide HP6)
    have hc1 := PgB.c1 (unhide HP6)
    obtain ⟨so, sc, hv⟩ := Fr.shape hF
    rw [pageF_len hdl] at hv
    subst hv
    clear hF hk
    go_wp2
    go_ret
    exact ⟨rfl, unhide HT6⟩
  · by_cases h60 : n = 60
    · subst h60
      clear hn
      go_wp2_with fail
      refine (pencode_not _ _ d _ (unhide HA5) (by omega)).mono ?_
      rintro e w6 ⟨rfl, hwk⟩
      have HA6 : Hid (Arg w6 (.slice (some ⟨w2.heap.size, 0, none⟩) 60 60) w2.heap.size d) := by rw [hwk]; exact unhide HA5
      have HT6 : Hid (Below w.heap.size w w6) := by rw [hwk]; exact unhide HT5
      clear hwk
      go_wp2_with fail
      refine (pencode_not _ _ d _ (unhide HA6) (by omega)).mono ?_
      rintro e w7 ⟨rfl, hwk⟩
      have HT7 : Hid (Below w.heap.size w w7) := by rw [hwk]; exact unhide HT6
      clear hwk
      go_wp2
      go_ret
      exact ⟨rfl, unhide HT7⟩
    · have hs : ((1 : Int), ([] : List Nat)) = (s1, s2) := by rw [← hst, pageD, if_pos (by rw [hdl]; exact h60)]
      cases hs
      have h1 : ((n : Int) == 48) = false := by rw [beq_eq_false_iff_ne]; omega
      have h2 : ((n : Int) == 60) = false := by rw [beq_eq_false_iff_ne]; omega
      clear hn
      go_wp2_with fail
      refine (pencode_not _ _ d _ (unhide HA5) (by omega)).mono ?_
      rintro e w6 ⟨rfl, hwk⟩
      have HA6 : Hid (Arg w6 (.slice (some ⟨w2.heap.size, 0, none⟩) n n) w2.heap.size d) := by rw [hwk]; exact unhide HA5
      have HT6 : Hid (Below w.heap.size w w6) := by rw [hwk]; exact unhide HT5
      have HP6 : Hid (PgB w6 w4.heap.size (.int .i64 1) (.slice to 0 tc)) := by rw [hwk]; exact unhide HP5
      clear hwk
      go_wp2_with fail
      refine (pencode_not _ _ d _ (unhide HA6) (by omega)).mono ?_
      rintro e w7 ⟨rfl, hwk⟩
      have HT7 : Hid (Below w.heap.size w w7) := by rw [hwk]; exact unhide HT6
      have HP7 : Hid (PgB w7 w4.heap.size (.int .i64 1) (.slice to 0 tc)) := by rw [hwk]; exact unhide HP6
      have hc0 := PgB.c0 (unhide HP7)
      have hc1 := PgB.c1 (unhide HP7)
      clear hwk
      go_wp2
      go_ret
      exact ⟨rfl, unhide HT7⟩
end Go.Proofs.Ytkhpoomajebgoaa
