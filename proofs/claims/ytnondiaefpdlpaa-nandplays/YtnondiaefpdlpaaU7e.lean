/-
  The second telling of nand: may, stops, Power, Stop, Erases, IsBad.
-/
import Derived.Test.YtnondiaefpdlpaaMh
import Derived.Test.YtnondiaefpdlpaaV7g
import Derived.Test.YtnondiaefpdlpaaMb
namespace Go.Proofs.Ytnondiaefpdlpaa
open Go.RowKit Go.Shelf

/-- What a call owns of bytes. -/
theorem own_fr {base : Nat} {w : World} {v : Value} {n : Nat} {s : List Nat} (hn : n = s.length) (h : w.ownsRow base 5 1 v n ((ints s).map (Value.int .u8))) : Fr base w v s := by
  subst hn
  rcases h.2 with ⟨h', h0⟩ | ⟨g, cap, cur, h1, h2, h3, h4, h5, h6, h7⟩
  · exact .inl ⟨List.eq_nil_of_length_eq_zero h0, h'⟩
  · refine .inr ⟨g, cap, h1, h4, h5, ⟨cur, h3, fun j hj => ?_⟩, h2⟩
    have e : (cur.toList.take (s.length * 1))[j]? = ((ints s).map (Value.int .u8))[j]? := by rw [h7]
    rw [List.getElem?_take, if_pos (by omega), Array.getElem?_toList] at e
    rw [e, List.getElem?_map, ← ints_getD, List.getD_eq_getElem?_getD, List.getElem?_eq_getElem (by rw [ints_len]; exact hj)]
    rfl
theorem own_frz {base : Nat} {w : World} {v : Value} {zs : List Int} (h : OwnZ base w v zs) : FrZ w v zs := by
  rcases h.2 with ⟨h', h0⟩ | ⟨g, cap, cur, h1, h2, h3, h4, h5, h6, h7⟩
  · exact .inl ⟨List.eq_nil_of_length_eq_zero h0, h'⟩
  · refine .inr ⟨g, cap, h1, h4, h5, cur, h3, fun j hj => ?_⟩
    have e : (cur.toList.take (zs.length * 1))[j]? = (zs.map (Value.int .i64))[j]? := by rw [h7]
    rw [List.getElem?_take, if_pos (by omega), Array.getElem?_toList] at e
    rw [e, List.getElem?_map, List.getElem?_eq_getElem hj]
    simp [hj]

set_option maxRecDepth 100000 in
set_option maxHeartbeats 4000000 in
theorem may_dead {m : Nat} {w : World} {L : Lr} {s : Nd} (h : RA m w L s) (hd : s.dead = true) (d b p : Int) (f : Bool) :
    Calls Try.prog 62 #[.pointer (some ⟨L.n, 0, none⟩), .int .i64 d, .int .i64 b, .int .i64 p, .bool f] w fun e w' => e = .returned (.int .i64 8) ∧ w' = w := by
  have c7 : w.cell? ⟨L.n, 7, none⟩ = some (.bool s.dead) := h.tc 7 rfl
  rw [hd] at c7
  clear h hd
  go_enter Try.func62, Try.ntmps62
  go_wp2_with fail
  go_returns
  exact ⟨rfl, rfl⟩

set_option maxRecDepth 100000 in
set_option maxHeartbeats 4000000 in
theorem may_ok {m : Nat} {w : World} {L : Lr} {s : Nd} (h : RA m w L s) (hdd : s.dead = false) {d b p : Nat} (hd : d < s.D) (hb : b < s.B) (hbad : s.bad d b = false) (hp : p < s.P) :
    Calls Try.prog 62 #[.pointer (some ⟨L.n, 0, none⟩), .int .i64 (d : Int), .int .i64 (b : Int), .int .i64 (p : Int), .bool true] w fun e w' => e = .returned (.int .i64 0) ∧ w' = w := by
  have c7 : w.cell? ⟨L.n, 7, none⟩ = some (.bool s.dead) := h.tc 7 rfl
  have c2 : w.cell? ⟨L.n, 2, none⟩ = some (.int .i64 (s.P : Int)) := h.tc 2 rfl
  rw [hdd] at c7
  have HN := hide h
  have HT := hide (decide_eq_true (There.nat hd hb))
  have hd1 : (d : Int) < (s.D : Int) := by omega
  have hb1 : (b : Int) < (s.B : Int) := by omega
  have hp1 : (p : Int) < (s.P : Int) := by omega
  have c3 : w.cell? ⟨L.n, 3, none⟩ = some (.slice (some ⟨L.gb, 0, none⟩) s.D L.xb) := (unhide HN).tc 3 rfl
  have cd : w.cell? ⟨L.gb, d, none⟩ = some (.slice (some ⟨L.bs d, 0, none⟩) s.B (L.cb d)) := (unhide HN).rb.cell hd
  have cb : w.cell? ⟨L.bs d, b * 4 + 3, none⟩ = some (.bool (s.bad d b)) := (unhide HN).bc (j := 3) hd hb (by omega)
  rw [hbad] at cb
  clear h
  go_enter Try.func62, Try.ntmps62
  go_wp2_with fail
  refine (there_any (unhide HN) _ _).mono ?_
  rintro e w ⟨rfl, rfl⟩
  rw [unhide HT]
  go_wp2_with fail
  go_returns
  exact ⟨rfl, rfl⟩

set_option maxRecDepth 100000 in
set_option maxHeartbeats 4000000 in
theorem may_bad {m : Nat} {w : World} {L : Lr} {s : Nd} (h : RA m w L s) (hdd : s.dead = false) (d b p : Int) (f : Bool) (hbad : ¬ (s.Good d b p ∧ f = true)) :
    Calls Try.prog 62 #[.pointer (some ⟨L.n, 0, none⟩), .int .i64 d, .int .i64 b, .int .i64 p, .bool f] w fun e w' => e = .returned (.int .i64 1) ∧ RA m w' L { s with wrong := inc s.wrong } ∧ Kr m w w' := by
  have c7 : w.cell? ⟨L.n, 7, none⟩ = some (.bool s.dead) := h.tc 7 rfl
  have c2 : w.cell? ⟨L.n, 2, none⟩ = some (.int .i64 (s.P : Int)) := h.tc 2 rfl
  rw [hdd] at c7
  have HN := hide h
  have HS := hide (h.setWrong (inc s.wrong))
  have c9 : w.cell? ⟨L.n, 9, none⟩ = some (.int .i64 s.wrong) := (unhide HN).tc 9 rfl
  have f9 := (unhide HN).tf 9
  clear h
  by_cases h1 : s.There d b
  · have HT := hide (decide_eq_true h1)
    obtain ⟨d, rfl⟩ := Int.eq_ofNat_of_zero_le h1.1.1
    obtain ⟨b, rfl⟩ := Int.eq_ofNat_of_zero_le h1.2.1
    have hd : d < s.D := by have := h1.1.2; omega
    have hb : b < s.B := by have := h1.2.2; omega
    have hd1 : (d : Int) < (s.D : Int) := by omega
    have hb1 : (b : Int) < (s.B : Int) := by omega
    have c3 : w.cell? ⟨L.n, 3, none⟩ = some (.slice (some ⟨L.gb, 0, none⟩) s.D L.xb) := (unhide HN).tc 3 rfl
    have cd : w.cell? ⟨L.gb, d, none⟩ = some (.slice (some ⟨L.bs d, 0, none⟩) s.B (L.cb d)) := (unhide HN).rb.cell hd
    have cb : w.cell? ⟨L.bs d, b * 4 + 3, none⟩ = some (.bool (s.bad d b)) := (unhide HN).bc (j := 3) hd hb (by omega)
    by_cases hbd : s.bad d b = true
    · rw [hbd] at cb
      clear hbad
      go_enter Try.func62, Try.ntmps62
      go_wp2_with fail
      refine (there_any (unhide HN) _ _).mono ?_
      rintro e w ⟨rfl, rfl⟩
      rw [unhide HT]
      go_wp2_with fail
      go_returns
      exact ⟨rfl, unhide HS⟩
    · have hbd' : s.bad d b = false := by simpa using hbd
      rw [hbd'] at cb
      by_cases hp0 : p < 0
      · clear hbad
        go_enter Try.func62, Try.ntmps62
        go_wp2_with fail
        refine (there_any (unhide HN) _ _).mono ?_
        rintro e w ⟨rfl, rfl⟩
        rw [unhide HT]
        go_wp2_with fail
        go_returns
        exact ⟨rfl, unhide HS⟩
      · by_cases hpP : (s.P : Int) ≤ p
        · clear hbad
          go_enter Try.func62, Try.ntmps62
          go_wp2_with fail
          refine (there_any (unhide HN) _ _).mono ?_
          rintro e w ⟨rfl, rfl⟩
          rw [unhide HT]
          go_wp2_with fail
          go_returns
          exact ⟨rfl, unhide HS⟩
        · obtain rfl : f = false := by
            cases f with
            | false => rfl
            | true => exact absurd ⟨⟨⟨h1, hbd'⟩, by omega, by omega⟩, rfl⟩ hbad
          clear hbad
          go_enter Try.func62, Try.ntmps62
          go_wp2_with fail
          refine (there_any (unhide HN) _ _).mono ?_
          rintro e w ⟨rfl, rfl⟩
          rw [unhide HT]
          go_wp2_with fail
          go_returns
          exact ⟨rfl, unhide HS⟩
  · have HT := hide (decide_eq_false h1)
    clear hbad h1
    go_enter Try.func62, Try.ntmps62
    go_wp2_with fail
    refine (there_any (unhide HN) _ _).mono ?_
    rintro e w ⟨rfl, rfl⟩
    rw [unhide HT]
    go_wp2_with fail
    go_returns
    exact ⟨rfl, unhide HS⟩

set_option maxRecDepth 100000 in
set_option maxHeartbeats 4000000 in
theorem stops_any {m : Nat} {w : World} {L : Lr} {s : Nd} (h : RA m w L s) (hdd : s.dead = false) :
    Calls Try.prog 63 #[.pointer (some ⟨L.n, 0, none⟩)] w fun e w' => e = .returned (.bool (decide (s.left = 1))) ∧ RA m w' L s.begun ∧ Kr m w w' := by
  have c8 : w.cell? ⟨L.n, 8, none⟩ = some (.int .i64 s.ops) := h.tc 8 rfl
  have f8 := h.tf 8
  have hl := h.ok.lf
  have hs := h.setOps (inc s.ops)
  have c5 : (w.setCell ⟨L.n, 8, none⟩ (.int .i64 (wrap64 (s.ops + 1)))).cell? ⟨L.n, 5, none⟩ = some (.int .i64 (s.left : Int)) := hs.1.tc 5 rfl
  have f5 : (w.setCell ⟨L.n, 8, none⟩ (.int .i64 (wrap64 (s.ops + 1)))).frozen? ⟨L.n, 5, none⟩ = false := hs.1.tf 5
  have HS := hide hs
  clear hs h
  by_cases h0 : s.left = 0
  · have HE : Hid (({ s with ops := inc s.ops } : Nd) = s.begun) := by
      unfold Nd.begun
      rw [h0, decide_eq_false (by omega)]
      cases s
      simp only at h0 hdd ⊢
      subst h0 hdd
      rfl
    have HD : Hid (decide (s.left = 1) = false) := by rw [h0]; rfl
    have c7 : (w.setCell ⟨L.n, 8, none⟩ (.int .i64 (wrap64 (s.ops + 1)))).cell? ⟨L.n, 7, none⟩ = some (.bool s.dead) := (unhide HS).1.tc 7 rfl
    rw [hdd] at c7
    rw [h0, show ((0 : Nat) : Int) = 0 from rfl] at c5
    rw [unhide HD]
    clear h0 HD
    go_enter Try.func63, Try.ntmps63
    go_wp2_with fail
    go_returns
    exact ⟨rfl, by rw [← unhide HE]; exact (unhide HS).1, (unhide HS).2⟩
  · obtain ⟨k, hk⟩ : ∃ k, s.left = k + 1 := ⟨s.left - 1, by omega⟩
    have h2 : IntKind.i64.wrap ((s.left : Int) - 1) = (k : Int) := by rw [IntWalk.i64_in _ ⟨by omega, by omega⟩]; omega
    have hs2 := (unhide HS).1.setLeft k (by omega)
    have c5' : ((w.setCell ⟨L.n, 8, none⟩ (.int .i64 (wrap64 (s.ops + 1)))).setCell ⟨L.n, 5, none⟩ (.int .i64 (k : Int))).cell? ⟨L.n, 5, none⟩ = some (.int .i64 (k : Int)) := hs2.1.tc 5 rfl
    have f7 : ((w.setCell ⟨L.n, 8, none⟩ (.int .i64 (wrap64 (s.ops + 1)))).setCell ⟨L.n, 5, none⟩ (.int .i64 (k : Int))).frozen? ⟨L.n, 7, none⟩ = false := hs2.1.tf 7
    have c7 : ((w.setCell ⟨L.n, 8, none⟩ (.int .i64 (wrap64 (s.ops + 1)))).setCell ⟨L.n, 5, none⟩ (.int .i64 (k : Int))).cell? ⟨L.n, 7, none⟩ = some (.bool s.dead) := hs2.1.tc 7 rfl
    have hs3 := hs2.1.setDead ((k : Int) == 0)
    have c7' : (((w.setCell ⟨L.n, 8, none⟩ (.int .i64 (wrap64 (s.ops + 1)))).setCell ⟨L.n, 5, none⟩ (.int .i64 (k : Int))).setCell ⟨L.n, 7, none⟩ (.bool ((k : Int) == 0))).cell? ⟨L.n, 7, none⟩ = some (.bool ((k : Int) == 0)) := hs3.1.tc 7 rfl
    have h4 : decide (s.left = 1) = ((k : Int) == 0) := by
      rw [hk]
      cases k with
      | zero => rfl
      | succ k => rw [decide_eq_false (by omega), eq_comm, beq_eq_false_iff_ne]; omega
    have HE : Hid (({ s with ops := inc s.ops, left := k, dead := ((k : Int) == 0) } : Nd) = s.begun) := by
      unfold Nd.begun
      rw [h4, hdd, hk]
      rfl
    have HS3 := hide hs3.1
    have HK := hide (((unhide HS).2.trans hs2.2).trans hs3.2)
    have h5 : 0 < (s.left : Int) := by omega
    rw [h4]
    clear h4 hs2 hs3 hdd HS h0
    generalize s.left = l at c5 h2 hk h5
    clear hk
    go_enter Try.func63, Try.ntmps63
    go_wp2_with fail
    go_returns
    exact ⟨rfl, by rw [← unhide HE]; exact unhide HS3, unhide HK⟩

set_option maxRecDepth 100000 in
set_option maxHeartbeats 4000000 in
theorem rpower_any {m : Nat} {w : World} {L : Lr} {s : Nd} (h : RA m w L s) :
    Calls Try.prog 18 #[.pointer (some ⟨L.n, 0, none⟩)] w fun e w' => (∃ v, e = .returned v) ∧ RA m w' L { s with dead := false, left := 0 } ∧ Kr m w w' := by
  have hs := h.setLeft 0 (by omega)
  rw [show ((0 : Nat) : Int) = 0 from rfl] at hs
  have c5 : w.cell? ⟨L.n, 5, none⟩ = some (.int .i64 (s.left : Int)) := h.tc 5 rfl
  have f5 := h.tf 5
  have c7 : (w.setCell ⟨L.n, 5, none⟩ (.int .i64 0)).cell? ⟨L.n, 7, none⟩ = some (.bool s.dead) := hs.1.tc 7 rfl
  have f7 := hs.1.tf 7
  have hs2 := hs.1.setDead false
  have HS := hide hs
  have HS2 := hide hs2
  clear hs hs2 h
  go_enter Try.func18, Try.ntmps18
  go_wp2_with fail
  go_end0
  exact ⟨⟨_, rfl⟩, (unhide HS2).1, (unhide HS).2.trans (unhide HS2).2⟩

set_option maxRecDepth 100000 in
set_option maxHeartbeats 4000000 in
theorem rerases_any {m : Nat} {w : World} {L : Lr} {s : Nd} (h : RA m w L s) (d b : Int) :
    Calls Try.prog 45 #[.pointer (some ⟨L.n, 0, none⟩), .int .i64 d, .int .i64 b] w fun e w' => e = .returned (.int .i64 (s.eraOf d b)) ∧ w' = w := by
  have HN := hide h
  clear h
  by_cases h1 : s.There d b
  · have HT := hide (decide_eq_true h1)
    have HE : Hid (s.eraOf d b = s.era d.toNat b.toNat) := if_pos h1
    obtain ⟨d, rfl⟩ := Int.eq_ofNat_of_zero_le h1.1.1
    obtain ⟨b, rfl⟩ := Int.eq_ofNat_of_zero_le h1.2.1
    have hd : d < s.D := by have := h1.1.2; omega
    have hb : b < s.B := by have := h1.2.2; omega
    have hd1 : (d : Int) < (s.D : Int) := by omega
    have hb1 : (b : Int) < (s.B : Int) := by omega
    have c3 : w.cell? ⟨L.n, 3, none⟩ = some (.slice (some ⟨L.gb, 0, none⟩) s.D L.xb) := (unhide HN).tc 3 rfl
    have cd : w.cell? ⟨L.gb, d, none⟩ = some (.slice (some ⟨L.bs d, 0, none⟩) s.B (L.cb d)) := (unhide HN).rb.cell hd
    have cb : w.cell? ⟨L.bs d, b * 4 + 2, none⟩ = some (.int .i64 (s.era d b)) := (unhide HN).bc (j := 2) hd hb (by omega)
    rw [unhide HE]
    clear h1
    go_enter Try.func45, Try.ntmps45
    go_wp2_with fail
    refine (there_any (unhide HN) _ _).mono ?_
    rintro e w ⟨rfl, rfl⟩
    rw [unhide HT]
    go_wp2_with fail
    go_returns
    exact ⟨rfl, rfl⟩
  · have HT := hide (decide_eq_false h1)
    have HE : Hid (s.eraOf d b = 0) := if_neg h1
    rw [unhide HE]
    clear h1
    go_enter Try.func45, Try.ntmps45
    go_wp2_with fail
    refine (there_any (unhide HN) _ _).mono ?_
    rintro e w ⟨rfl, rfl⟩
    rw [unhide HT]
    go_wp2_with fail
    go_returns
    exact ⟨rfl, rfl⟩

set_option maxRecDepth 100000 in
set_option maxHeartbeats 4000000 in
theorem risBad_any {m : Nat} {w : World} {L : Lr} {s : Nd} (h : RA m w L s) (d b : Int) :
    Calls Try.prog 46 #[.pointer (some ⟨L.n, 0, none⟩), .int .i64 d, .int .i64 b] w fun e w' => e = .returned (.bool (s.badB d b)) ∧ w' = w := by
  have HN := hide h
  clear h
  by_cases h1 : s.There d b
  · have HT := hide (decide_eq_true h1)
    have HE : Hid (s.badB d b = s.bad d.toNat b.toNat) := if_pos h1
    obtain ⟨d, rfl⟩ := Int.eq_ofNat_of_zero_le h1.1.1
    obtain ⟨b, rfl⟩ := Int.eq_ofNat_of_zero_le h1.2.1
    have hd : d < s.D := by have := h1.1.2; omega
    have hb : b < s.B := by have := h1.2.2; omega
    have hd1 : (d : Int) < (s.D : Int) := by omega
    have hb1 : (b : Int) < (s.B : Int) := by omega
    have c3 : w.cell? ⟨L.n, 3, none⟩ = some (.slice (some ⟨L.gb, 0, none⟩) s.D L.xb) := (unhide HN).tc 3 rfl
    have cd : w.cell? ⟨L.gb, d, none⟩ = some (.slice (some ⟨L.bs d, 0, none⟩) s.B (L.cb d)) := (unhide HN).rb.cell hd
    have cb : w.cell? ⟨L.bs d, b * 4 + 3, none⟩ = some (.bool (s.bad d b)) := (unhide HN).bc (j := 3) hd hb (by omega)
    rw [unhide HE]
    clear h1
    go_enter Try.func46, Try.ntmps46
    go_wp2_with fail
    refine (there_any (unhide HN) _ _).mono ?_
    rintro e w ⟨rfl, rfl⟩
    rw [unhide HT]
    go_wp2_with fail
    go_returns
    exact ⟨rfl, rfl⟩
  · have HT := hide (decide_eq_false h1)
    have HE : Hid (s.badB d b = false) := if_neg h1
    rw [unhide HE]
    clear h1
    go_enter Try.func46, Try.ntmps46
    go_wp2_with fail
    refine (there_any (unhide HN) _ _).mono ?_
    rintro e w ⟨rfl, rfl⟩
    rw [unhide HT]
    go_wp2_with fail
    go_returns
    exact ⟨rfl, rfl⟩

end Go.Proofs.Ytnondiaefpdlpaa
