/-
  ramekinref9.Supers.
-/
import Derived.Test.YtnhhemecfcljbaaK9j
import Derived.Test.YtnhhemecfcljbaaM6
namespace Go.Proofs.Ytnhhemecfcljbaa
open Go.RowKit Go.Shelf

/-- One int goes behind those that the call owns. -/
theorem run_append_i9 (w : World) (base : Nat) (ty : TypeId) (v : Value) (l : List Nat) (hown : OwnI base w v l) (g k : Nat) (hc : w.cell? ⟨g, 0, none⟩ = some (.int .i64 (k : Int))) (hb : l.length ≤ 1000) (hbase : base ≤ w.heap.size) :
    ∃ v' w', (Builtin.append_ #[25, 25] ty #[v, .slice (some ⟨g, 0, none⟩) 1 1]).run Try.prog w = .ok v' w' ∧ OwnI base w' v' (l ++ [k]) ∧ w.grownBy w' v.ownBlock := by
  obtain ⟨i0, hi0, hz0, hzz1, hz2⟩ := info_parts infoI
  obtain ⟨v', w', h1, h2, h3⟩ := run_append_int (P := Try.prog) w base 25 ty 3 i0 Try.underlying25 hi0 hz0 hzz1 hz2 v l.length _ hown g (k : Int) hc (by omega) hbase
  exact ⟨v', w', h1, OwnI.snoc h2, h3⟩
/-- It isn't among the first i. -/
def isn9 (d b : Nat) (bad : List (Int × Int)) (i : Nat) : Bool := !decide (((d : Int), (b : Int)) ∈ bad.take i)
theorem isn9_succ {d b : Nat} {bad : List (Int × Int)} {i : Nat} (hi : i < bad.length) : isn9 d b bad (i + 1) = (isn9 d b bad i && !((bad.getD i (0, 0)).1 == (d : Int) && (bad.getD i (0, 0)).2 == (b : Int))) := by
  unfold isn9
  have h := pair_take hi ((d : Int), (b : Int))
  by_cases h1 : ((d : Int), (b : Int)) ∈ bad.take i
  · rw [decide_eq_true (h.2 (.inl h1)), decide_eq_true h1]; rfl
  · by_cases h2 : bad.getD i (0, 0) = ((d : Int), (b : Int))
    · rw [decide_eq_true (h.2 (.inr h2)), h2]; simp
    · rw [decide_eq_false (fun h3 => (h.1 h3).elim h1 h2), decide_eq_false h1]
      have : ((bad.getD i (0, 0)).1 == (d : Int) && (bad.getD i (0, 0)).2 == (b : Int)) = false := by
        rw [Bool.and_eq_false_iff]
        by_cases h : (bad.getD i (0, 0)).1 = (d : Int)
        · right; rw [beq_eq_false_iff_ne]; intro h3; exact h2 (Prod.ext h h3)
        · left; rw [beq_eq_false_iff_ne]; exact h
      rw [this]; rfl

set_option maxRecDepth 100000 in
set_option maxHeartbeats 16000000 in
theorem rsupers_any (D B P : Int) (bad : List (Int × Int)) (ao : Option Addr) (nb cb g : Nat) (w : World) (hP : PArg w (.slice ao nb cb) g bad) :
    Calls Try.prog 12 #[.agg #[.int .i64 D, .int .i64 B, .int .i64 P], .slice ao nb cb] w fun e w' => ∃ v, e = .returned v ∧ OwnRI w.heap.size w' v (supG D B P bad) ∧ Below w.heap.size w w' := by
  obtain ⟨W, hW, hG, hb⟩ := GeoAt.new w D B P
  have HB := hide hb
  have HG := hide hG
  have c0 := hG.c0
  have c1 := hG.c1
  have c2 := hG.c2
  have HP := hide (hP.below' hb)
  have hnm := (parg_len hP).2
  have HBL := hide (parg_len hP).1
  clear hb hG hP
  by_cases hok : okG D B P
  · have HO := hide (chk9_ok hok)
    rw [supG, if_pos hok]
    obtain ⟨⟨d1, d2⟩, ⟨b1, b2⟩, p1, p2⟩ := hok
    obtain ⟨Dn, hD⟩ := Int.eq_ofNat_of_zero_le (show (0 : Int) ≤ D by omega)
    obtain ⟨Bn, hB⟩ := Int.eq_ofNat_of_zero_le (show (0 : Int) ≤ B by omega)
    subst hD
    subst hB
    rw [Int.toNat_natCast, Int.toNat_natCast]
    go_enter Try.func12, Try.ntmps12
    go_wp2_with fail
    clear c0 c1 c2
    refine (rcheck9_any (Dn : Int) (Bn : Int) P _).mono ?_
    rintro e w2 ⟨rfl, hk⟩
    rw [unhide HO]
    have c1 := ((unhide HG).below hk).c1
    have HT := hide hk
    clear hk HO
    have hWs := (unhide HB).size
    go_wp2_with fail
    clear c1
    go_loopw [5, 6, 7] (fun q5 q6 q7 wr => ∃ k m : Nat, q7 = .int .i64 k ∧ q6 = .int .i64 m ∧ k ≤ Dn ∧ Hid (m = mnL Bn (dieL k Bn bad)) ∧ Hid (OwnRI W.heap.size wr q5 (dieL k Bn bad)) ∧ Hid (Below W.heap.size W wr)) (fun _ _ q _ => Dn - (intOf q).toNat)
    case atStart => exact ⟨0, Bn, rfl, rfl, by omega, rfl, OwnRI.nil _ _, HT⟩
    case round =>
      clear HT
      obtain ⟨k, m, rfl, rfl, hk, HM, HR, HT⟩ := hrel
      obtain ⟨wa, rfl⟩ : ∃ wa, wa = wr := ⟨_, rfl⟩
      have c0 := ((unhide HG).below (unhide HT)).c0
      by_cases hlt : k < Dn
      · have hk1 : (k : Int) < (Dn : Int) := by omega
        go_wp2_with fail
        clear c0
        have hWa := (unhide HT).size
        go_loopw [8, 9] (fun q8 q9 wr => ∃ b : Nat, q9 = .int .i64 b ∧ b ≤ Bn ∧ Hid (OwnI wa.heap.size wr q8 (gdL (k : Int) b bad)) ∧ Hid (Below wa.heap.size wa wr)) (fun _ q _ => Bn - (intOf q).toNat)
        case atStart => exact ⟨0, rfl, by omega, OwnI.nil _ _, Below.refl _ _⟩
        case round =>
          obtain ⟨b, rfl, hbB, HL, HK⟩ := hrel
          obtain ⟨wb, rfl⟩ : ∃ wb, wb = wr := ⟨_, rfl⟩
          have hWb := (unhide HK).size
          have HTb : Hid (Below W.heap.size W wb) := (unhide HT).trans ((unhide HK).mono hWa)
          have c1 := ((unhide HG).below (unhide HTb)).c1
          by_cases hlb : b < Bn
          · have hb1 : (b : Int) < (Bn : Int) := by omega
            go_wp2_with fail
            clear c1
            go_loopw [10, 11] (fun q10 q11 wr => ∃ i : Nat, q11 = .int .i64 i ∧ i ≤ nb ∧ q10 = .bool (isn9 k b bad i) ∧ wr = wb) (fun _ q _ => nb - (intOf q).toNat)
            case atStart => exact ⟨0, rfl, by omega, by rw [isn9]; simp, rfl⟩
            case round =>
              obtain ⟨i, rfl, hi, rfl, hwr⟩ := hrel
              replace hwr := hwr.symm
              subst hwr
              by_cases hli : i < nb
              · have hi1 : (i : Int) < (nb : Int) := by omega
                obtain ⟨hln, o, hao, k0, k1⟩ := two_at ((unhide HP).below' (unhide HTb)) hli
                subst hao
                have HS := hide (isn9_succ (d := k) (b := b) (bad := bad) (i := i) (by omega))
                obtain ⟨⟨y0, y1⟩, hy⟩ : ∃ y, bad.getD i (0, 0) = y := ⟨_, rfl⟩
                rw [hy] at k0 k1 HS
                dsimp only at k0 k1 HS
                obtain ⟨r', hr'⟩ : ∃ r, (!(y0 == (k : Int) && y1 == (b : Int))) = r := ⟨_, rfl⟩
                rw [hr'] at HS
                have hq := neTA y0 y1 (k : Int) (b : Int) r' hr'
                obtain ⟨r, hr⟩ : ∃ r, isn9 k b bad i = r := ⟨_, rfl⟩
                rw [hr] at HS ⊢
                clear hy hln hr hr'
                cases r
                · clear k0 k1 hq
                  go_wp2_with fail
                  go_roundw
                  case rel => exact ⟨i + 1, by go_num, by omega, by rw [unhide HS]; rfl, trivial⟩
                  case measure => simp [intOf]; omega
                · go_wp2_with fail
                  go_roundw
                  case rel => exact ⟨i + 1, by go_num, by omega, by rw [unhide HS]; rfl, trivial⟩
                  case measure => simp [intOf]; omega
              · obtain rfl : i = nb := by omega
                have HS : Hid (isn9 k b bad i = !decide (((k : Int), (b : Int)) ∈ bad)) := by show _ = _; rw [isn9, List.take_of_length_le (by rw [unhide HBL]; omega)]
                have HGS := hide (gdL_succ (k : Int) b bad)
                have hgl := gdL_len (k : Int) b bad
                by_cases hbad : ((k : Int), (b : Int)) ∈ bad
                · rw [if_pos hbad, List.append_nil] at HGS
                  rw [decide_eq_true hbad] at HS
                  rw [unhide HS]
                  clear hbad
                  go_wp2_with fail
                  go_roundw
                  case rel => exact ⟨b + 1, by go_num, by omega, by rw [unhide HGS]; exact HL, HK⟩
                  case measure => simp [intOf]; omega
                · rw [if_neg hbad] at HGS
                  rw [decide_eq_false hbad] at HS
                  rw [unhide HS]
                  clear hbad
                  obtain ⟨vo, vc, hvo⟩ := (unhide HL).sl
                  subst hvo
                  have hal : Below wb.heap.size wb (wb.alloc (.cells #[.int .i64 (b : Int)] 3)) := (Below.refl _ _).alloc (Nat.le_refl _) _
                  obtain ⟨v5, w5, hr5, hO5, hg5⟩ := run_append_i9 _ wa.heap.size 25 _ _ ((unhide HL).below hal) wb.heap.size b (cell_new' wb (.int .i64 (b : Int)) 3).1 (by omega) (by have := hal.size; omega)
                  have hk5 : Below wa.heap.size wa w5 := below_grown ((unhide HK).trans (hal.mono hWb)) hg5 (by have := hal.size; omega) (fun k hk => (unhide HL).rowb k hk)
                  rw [← unhide HGS] at hO5
                  have HO5 := hide hO5
                  have HR5 := hide hr5
                  have HK5 := hide hk5
                  obtain ⟨o5, c5, hv5⟩ := hO5.sl
                  subst hv5
                  clear hal hr5 hO5 hg5 hk5 hgl
                  go_wp2_with (at_builtin; refine wpList_append_run rfl _ _ _ _ _ rfl _ _ rfl rfl (unhide HR5) ?_)
                  go_roundw
                  case rel => exact ⟨b + 1, by go_num, by omega, HO5, HK5⟩
                  case measure => simp [intOf]; omega
          · obtain rfl : b = Bn := by omega
            have HDS := hide (dieL_succ k b bad)
            have HMS : Hid (mnL b (dieL (k + 1) b bad) = min m (gdL (k : Int) b bad).length) := by show _ = _; rw [unhide HDS, mnL_snoc, unhide HM]
            have HRb := hide ((unhide HR).below (unhide HK))
            obtain ⟨r, hr⟩ : ∃ r, gdL (k : Int) b bad = r := ⟨_, rfl⟩
            rw [hr] at HL HDS HMS
            obtain ⟨n, hn⟩ : ∃ n, r.length = n := ⟨_, rfl⟩
            have hnb : n ≤ b := by rw [← hn, ← hr]; exact gdL_len _ _ _
            obtain ⟨vo, vc, hvo⟩ := (unhide HL).sl
            subst hvo
            rw [hn] at HL HMS ⊢
            obtain ⟨ro, rc, hro⟩ := (unhide HRb).sl
            subst hro
            rw [dieL_len] at HRb ⊢
            have hal : Below wb.heap.size wb (wb.alloc (.cells #[.slice vo n vc] 25)) := (Below.refl _ _).alloc (Nat.le_refl _) _
            obtain ⟨v5, w5, hr5, hO5, hg5, hob5⟩ := run_append_ri _ W.heap.size 31 (.slice ro k rc) (dieL k b bad) ((unhide HRb).below hal) wb.heap.size vo n vc r (cell_new' wb (.slice vo n vc) 25).1 (((unhide HL).mono hWa).below hal) (by rw [dieL_len]; omega) (by have := hal.size; omega)
            rw [← unhide HDS] at hO5
            have hk5 : Below W.heap.size W w5 := below_grown ((unhide HTb).trans (hal.mono (by omega))) hg5 (by have := hal.size; omega) (fun k hk => (hob5 k hk).1)
            have hmin := fun W => min_two 3 #[3, 3] (m : Int) (n : Int) W
            have hmm : min (m : Int) (n : Int) = ((min m n : Nat) : Int) := by omega
            rw [hmm] at hmin
            have hml : m ≤ b := by rw [unhide HM]; exact mnL_le _ _
            obtain ⟨m2, hm2⟩ : ∃ m2, min m n = m2 := ⟨_, rfl⟩
            rw [hm2] at hmin HMS
            have HO5 := hide hO5
            have HR5 := hide hr5
            have HT5 := hide hk5
            obtain ⟨o5, c5, hv5⟩ := hO5.sl
            subst hv5
            clear hal hr5 hO5 hg5 hob5 hk5 hr hn hmm hm2
            go_wp2_with (at_builtin; refine wpList_append_run rfl _ _ _ _ _ rfl _ _ rfl rfl (unhide HR5) ?_)
            go_roundw
            case rel => exact ⟨k + 1, m2, by go_num, rfl, by omega, (unhide HMS).symm, HO5, HT5⟩
            case measure => simp [intOf]; omega
      · obtain rfl : k = Dn := by omega
        obtain ⟨ls, hls⟩ : ∃ ls, dieL k Bn bad = ls := ⟨_, rfl⟩
        have hll : ls.length = k := by rw [← hls, dieL_len]
        have hmB : m ≤ Bn := by rw [unhide HM]; exact mnL_le _ _
        have hml : ∀ l ∈ ls, m ≤ l.length := fun l hl => by rw [unhide HM, hls]; exact mnL_le_mem hl
        have HSUP : Hid (sup9 k Bn bad = rks9 ls m) := by show _ = _; rw [sup9, unhide HM, hls]
        rw [hls] at HM HR
        obtain ⟨go, gc, hgo⟩ := (unhide HR).sl
        subst hgo
        rw [hll] at HR ⊢
        have HML := hide hml
        have HLL := hide hll
        have hWa := (unhide HT).size
        clear hls hll hml
        go_wp2_with fail
        clear c0
        go_loopw [12, 13] (fun q12 q13 wr => ∃ i : Nat, q13 = .int .i64 i ∧ i ≤ m ∧ Hid (OwnRI wa.heap.size wr q12 (rks9 ls i)) ∧ Hid (Below wa.heap.size wa wr)) (fun _ q _ => m - (intOf q).toNat)
        case atStart => exact ⟨0, rfl, by omega, OwnRI.nil _ _, Below.refl _ _⟩
        case round =>
          obtain ⟨i, rfl, him, HOU, HK⟩ := hrel
          obtain ⟨wb, rfl⟩ : ∃ wb, wb = wr := ⟨_, rfl⟩
          have hWb := (unhide HK).size
          have HTb : Hid (Below W.heap.size W wb) := (unhide HT).trans ((unhide HK).mono hWa)
          have c0 := ((unhide HG).below (unhide HTb)).c0
          by_cases hli : i < m
          · have hi1 : (i : Int) < (m : Int) := by omega
            go_wp2_with fail
            clear c0
            go_loopw [14, 15] (fun q14 q15 wr => ∃ d : Nat, q15 = .int .i64 d ∧ d ≤ k ∧ Hid (OwnI wb.heap.size wr q14 (rk9 (ls.take d) i)) ∧ Hid (Below wb.heap.size wb wr)) (fun _ q _ => k - (intOf q).toNat)
            case atStart => exact ⟨0, rfl, by omega, OwnI.nil _ _, Below.refl _ _⟩
            case round =>
              obtain ⟨d, rfl, hdk, HL, HKc⟩ := hrel
              obtain ⟨wc, rfl⟩ : ∃ wc, wc = wr := ⟨_, rfl⟩
              have hWc := (unhide HKc).size
              have HTc : Hid (Below W.heap.size W wc) := (unhide HTb).trans ((unhide HKc).mono (by omega))
              have c0 := ((unhide HG).below (unhide HTc)).c0
              have hlr : (rk9 (ls.take d) i).length = d := by rw [rk9_len, List.length_take, unhide HLL]; omega
              by_cases hld : d < k
              · have hd1 : (d : Int) < (k : Int) := by omega
                have HSN : Hid (rk9 (ls.take (d + 1)) i = rk9 (ls.take d) i ++ [cf (ls.getD d []) i]) := by show _ = _; rw [take_rows (by rw [unhide HLL]; omega), rk9_snoc]
                have hmem : ls.getD d [] ∈ ls := by
                  rw [List.getD_eq_getElem?_getD, List.getElem?_eq_getElem (by rw [unhide HLL]; omega)]
                  exact List.getElem_mem _
                have hil := unhide HML _ hmem
                obtain ⟨G, c', u, hv, hcG, hu⟩ := (((unhide HR).below ((unhide HK).trans ((unhide HKc).mono hWb)))).at (i := d) (by rw [unhide HLL]; omega)
                have hgo : go = some ⟨G, 0, none⟩ := by cases hv; rfl
                subst hgo
                obtain ⟨r, hr⟩ : ∃ r, ls.getD d [] = r := ⟨_, rfl⟩
                rw [hr] at hu HSN hil
                obtain ⟨q, cq, hq, hcq⟩ := hu.at9 (d := i) (by omega)
                subst hq
                obtain ⟨n, hn⟩ : ∃ n, r.length = n := ⟨_, rfl⟩
                rw [hn] at hcG hil
                have hin : (i : Int) < (n : Int) := by omega
                obtain ⟨x, hx⟩ : ∃ x, cf r i = x := ⟨_, rfl⟩
                rw [hx] at hcq HSN
                obtain ⟨vo, vc, hvo⟩ := (unhide HL).sl
                subst hvo
                rw [hlr] at HL ⊢
                have hal : Below wc.heap.size wc (wc.alloc (.cells #[.int .i64 (x : Int)] 3)) := (Below.refl _ _).alloc (Nat.le_refl _) _
                obtain ⟨v5, w5, hr5, hO5, hg5⟩ := run_append_i9 _ wb.heap.size 25 _ _ ((unhide HL).below hal) wc.heap.size x (cell_new' wc (.int .i64 (x : Int)) 3).1 (by omega) (by have := hal.size; omega)
                have hk5 : Below wb.heap.size wb w5 := below_grown ((unhide HKc).trans (hal.mono hWc)) hg5 (by have := hal.size; omega) (fun k hk => (unhide HL).rowb k hk)
                rw [← unhide HSN] at hO5
                have HO5 := hide hO5
                have HR5 := hide hr5
                have HK5 := hide hk5
                obtain ⟨o5, c5, hv5⟩ := hO5.sl
                subst hv5
                clear hal hr5 hO5 hg5 hk5 hmem hr hu hn hx hlr hv
                go_wp2_with (at_builtin; refine wpList_append_run rfl _ _ _ _ _ rfl _ _ rfl rfl (unhide HR5) ?_)
                go_roundw
                case rel => exact ⟨d + 1, by go_num, by omega, HO5, HK5⟩
                case measure => simp [intOf]; omega
              · obtain rfl : d = k := by omega
                have HE : Hid (rks9 ls (i + 1) = rks9 ls i ++ [rk9 ls i]) := rks9_succ _ _
                rw [List.take_of_length_le (by rw [unhide HLL]; omega)] at HL hlr
                obtain ⟨r, hr⟩ : ∃ r, rk9 ls i = r := ⟨_, rfl⟩
                rw [hr] at HL HE hlr
                obtain ⟨vo, vc, hvo⟩ := (unhide HL).sl
                subst hvo
                rw [hlr] at HL ⊢
                have hOU := (unhide HOU).below (unhide HKc)
                obtain ⟨uo, uc, huo⟩ := hOU.sl
                subst huo
                rw [rks9_len] at hOU ⊢
                have hal : Below wc.heap.size wc (wc.alloc (.cells #[.slice vo d vc] 25)) := (Below.refl _ _).alloc (Nat.le_refl _) _
                obtain ⟨v5, w5, hr5, hO5, hg5, hob5⟩ := run_append_ri _ wa.heap.size 31 (.slice uo i uc) (rks9 ls i) (hOU.below hal) wc.heap.size vo d vc r (cell_new' wc (.slice vo d vc) 25).1 (((unhide HL).mono hWb).below hal) (by rw [rks9_len]; omega) (by have := hal.size; omega)
                have hk5 : Below wa.heap.size wa w5 := below_grown (((unhide HK).trans ((unhide HKc).mono hWb)).trans (hal.mono (by omega))) hg5 (by have := hal.size; omega) (fun k hk => (hob5 k hk).1)
                rw [← unhide HE] at hO5
                have HO5 := hide hO5
                have HR5 := hide hr5
                have HK5 := hide hk5
                obtain ⟨o5, c5, hv5⟩ := hO5.sl
                subst hv5
                clear hal hr5 hO5 hg5 hob5 hk5 hr hlr hOU
                go_wp2_with (at_builtin; refine wpList_append_run rfl _ _ _ _ _ rfl _ _ rfl rfl (unhide HR5) ?_)
                go_roundw
                case rel => exact ⟨i + 1, by go_num, by omega, HO5, HK5⟩
                case measure => simp [intOf]; omega
          · obtain rfl : i = m := by omega
            obtain ⟨uo, uc, huo⟩ := (unhide HOU).sl
            subst huo
            clear c0
            go_wp2_with fail
            go_ret
            exact ⟨_, rfl, by rw [unhide HSUP]; exact (unhide HOU).mono (by omega), (unhide HB).trans ((unhide HTb).mono hWs)⟩
  · have HO := hide (chk9_not hok)
    rw [supG, if_neg hok]
    clear hok
    go_enter Try.func12, Try.ntmps12
    go_wp2_with fail
    clear c0 c1 c2
    refine (rcheck9_any D B P _).mono ?_
    rintro e w2 ⟨rfl, hk⟩
    rw [unhide HO]
    have HK := hide ((unhide HB).trans (hk.mono (unhide HB).size))
    clear hk
    go_wp2_with fail
    go_ret
    exact ⟨_, rfl, OwnRI.nil _ _, unhide HK⟩

end Go.Proofs.Ytnhhemecfcljbaa
