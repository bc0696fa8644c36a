/-
  geom.Supers.
-/
import Derived.Test.YtnhhemecfcljbaaK9i
import Derived.Test.YtnhhemecfcljbaaK9g
import Derived.Test.YtnhhemecfcljbaaK9d
namespace Go.Proofs.Ytnhhemecfcljbaa
open Go.RowKit Go.Shelf

/-- One slice of a row of ints goes behind rows that the call owns. -/
theorem run_append_ri (w : World) (base : Nat) (ty : TypeId) (v : Value) (ls : List (List Nat)) (hown : OwnRI base w v ls) (g : Nat) (a : Option Addr) (l c : Nat) (r : List Nat) (hc : w.cell? ⟨g, 0, none⟩ = some (.slice a l c)) (hr : OwnI base w (.slice a l c) r) (hb : ls.length ≤ 1000) (hbase : base ≤ w.heap.size) :
    ∃ v' w', (Builtin.append_ #[31, 31] ty #[v, .slice (some ⟨g, 0, none⟩) 1 1]).run Try.prog w = .ok v' w' ∧ OwnRI base w' v' (ls ++ [r]) ∧ w.grownBy w' v.ownBlock ∧ ∀ k, v.ownBlock = some k → base ≤ k ∧ ∃ cur, w.heap[k]? = some (.cells cur 25 (0, 0)) := by
  obtain ⟨f, h1, h2⟩ := hown
  obtain ⟨v', w', hr1, ho, hg⟩ := run_append_sl w base 31 ty 25 Try.underlying31 infoRL v ls.length f h1 g a l c hc hb hbase
  have hob : ∀ k, v.ownBlock = some k → base ≤ k ∧ ∃ cur, w.heap[k]? = some (.cells cur 25 (0, 0)) := fun k hk => h1.ownBlock hk
  have hkI : ∀ (g : Nat) (cur : Array Value), base ≤ g → w.heap[g]? = some (.cells cur 3 (0, 0)) → w'.heap[g]? = w.heap[g]? := fun g cur _ h => hg.block g (lt_of_block h) (fun e => by
    obtain ⟨_, cur2, h3⟩ := hob g e.symm
    rw [h3] at h
    cases h)
  exact ⟨v', w', hr1, OwnRI.snoc h2 ho hkI (hr.keepT hkI), hg, hob⟩

/-- The superblocks of whatever geometry. -/
def supG (D B P : Int) (bad : List (Int × Int)) : List (List Nat) := if okG D B P then sup9 D.toNat B.toNat bad else []

set_option maxRecDepth 100000 in
set_option maxHeartbeats 8000000 in
theorem gsupers_any (D B P : Int) (bad : List (Int × Int)) (ao : Option Addr) (nb cb g : Nat) (w : World) (hP : PArg w (.slice ao nb cb) g bad) :
    Calls Try.prog 11 #[.agg #[.int .i64 D, .int .i64 B, .int .i64 P], .slice ao nb cb] w fun e w' => ∃ v, e = .returned v ∧ OwnRI w.heap.size w' v (supG D B P bad) ∧ Below w.heap.size w w' := by
  obtain ⟨W, hW, hG, hb⟩ := GeoAt.new w D B P
  have HB := hide hb
  have HG := hide hG
  have c0 := hG.c0
  have c1 := hG.c1
  have c2 := hG.c2
  have HP := hide (hP.below' hb)
  clear hb hG hP
  by_cases hok : okG D B P
  · have HO := hide (chk9_ok hok)
    rw [supG, if_pos hok]
    obtain ⟨⟨d1, d2⟩, ⟨b1, b2⟩, p1, p2⟩ := hok
    obtain ⟨Dn, hD⟩ := Int.eq_ofNat_of_zero_le (show (0 : Int) ≤ D by omega)
    obtain ⟨Bn, hB⟩ := Int.eq_ofNat_of_zero_le (show (0 : Int) ≤ B by omega)
    subst hD
    subst hB
    rw [Int.toNat_natCast, Int.toNat_natCast]
    go_enter Try.func11, Try.ntmps11
    go_wp2_with fail
    clear c0 c1 c2
    refine (gcheck_any (Dn : Int) (Bn : Int) P _).mono ?_
    rintro e w2 ⟨rfl, hk⟩
    rw [unhide HO]
    have c0 := ((unhide HG).below hk).c0
    have HT := hide hk
    clear hk HO
    have hWs := (unhide HB).size
    go_wp2_with fail
    clear c0
    go_loopw [5, 12] (fun q5 q wr => ∃ k : Nat, q = .int .i64 k ∧ k ≤ Dn ∧ Hid (OwnRI W.heap.size wr q5 (dieL k Bn bad)) ∧ Hid (Below W.heap.size W wr)) (fun _ q _ => Dn - (intOf q).toNat)
    case atStart => exact ⟨0, rfl, by omega, OwnRI.nil _ _, HT⟩
    case round =>
      clear HT
      obtain ⟨k, rfl, hk, HR, HT⟩ := hrel
      by_cases hlt : k < Dn
      · have hk1 : (k : Int) < (Dn : Int) := by omega
        have c1 := ((unhide HG).below (unhide HT)).c1
        obtain ⟨vo, vc, hvo⟩ := (unhide HR).sl
        subst hvo
        rw [dieL_len] at HR ⊢
        go_wp2_with fail
        clear c1
        refine (goodBlocks_any (k : Int) Bn bad ao nb cb g (by omega) _ ((unhide HP).below' (unhide HT))).mono ?_
        rintro e w4 ⟨u, rfl, hu, hk4⟩
        obtain ⟨ua, uc, hu2⟩ := hu.sl
        subst hu2
        have hb4 : Below W.heap.size W w4 := (unhide HT).trans (hk4.mono (unhide HT).size)
        have hu4 : OwnI W.heap.size w4 (.slice ua (gdL (k : Int) Bn bad).length uc) (gdL (k : Int) Bn bad) := hu.mono (unhide HT).size
        have hal : Below w4.heap.size w4 (w4.alloc (.cells #[.slice ua (gdL (k : Int) Bn bad).length uc] 25)) := (Below.refl _ _).alloc (Nat.le_refl _) _
        have hc4 := (cell_new' w4 (.slice ua (gdL (k : Int) Bn bad).length uc) 25).1
        obtain ⟨v5, w5, hr5, hO5, hg5, hob5⟩ := run_append_ri _ W.heap.size 31 (.slice vo k vc) (dieL k Bn bad) (((unhide HR).below hk4).below hal) w4.heap.size ua _ uc _ hc4 (hu4.below hal) (by rw [dieL_len]; omega) (by have := hb4.size; have := hal.size; omega)
        rw [← dieL_succ] at hO5
        have hk5 : Below W.heap.size W w5 := below_grown (hb4.trans (hal.mono hb4.size)) hg5 (by have := hb4.size; have := hal.size; omega) (fun k hk => (hob5 k hk).1)
        have HT5 := hide hk5
        have HO5 := hide hO5
        have HR5 := hide hr5
        obtain ⟨o5, c5, hv5⟩ := hO5.sl
        subst hv5
        clear hu hk4 hb4 hu4 hal hc4 hr5 hO5 hg5 hob5 hk5
        go_wp2_with (at_builtin; refine wpList_append_run rfl _ _ _ _ _ rfl _ _ rfl rfl (unhide HR5) ?_)
        go_roundw
        case rel => exact ⟨k + 1, by go_num, by omega, HO5, HT5⟩
        case measure => simp [intOf]; omega
      · have hkD : k = Dn := by omega
        subst hkD
        obtain ⟨vo, vc, hvo⟩ := (unhide HR).sl
        subst hvo
        rw [dieL_len] at HR ⊢
        go_wp2_with fail
        refine (ranks_any _ wr ⟨_, _, _, rfl⟩).mono ?_
        rintro e w6 ⟨rfl, hcap, hz6, hk6⟩
        have hA6 := (unhide HR).below hk6
        have hb6 := (unhide HT).trans (hk6.mono (unhide HT).size)
        have HX := ranks_x wr.heap.size W.heap.size (.slice vo k vc) (dieL k Bn bad) (sn9 k Bn bad) (by have := sn9_le k Bn bad; omega) (by rw [dieL_len]; omega) (fun l hl => mnL_le_mem hl) (by
          rcases sn9_ex k Bn bad with h | ⟨d, hd, h⟩
          · exact ⟨gdL ((0 : Nat) : Int) Bn bad, List.mem_iff_getElem?.2 ⟨0, dieL_get (by omega)⟩, by rw [h]; exact gdL_len _ _ _⟩
          · exact ⟨_, List.mem_iff_getElem?.2 ⟨d, dieL_get hd⟩, by omega⟩) w6 hcap hA6
        have HXX := hide HX
        have HB6 := hide hb6
        clear HX hcap hz6 hk6 hA6 hb6
        go_wp2_with fail
        refine (collect9_any 28 _ 0 (sn9 k Bn bad) (rk9 (dieL k Bn bad)) (by have := sn9_le k Bn bad; omega) w6 (enters_of Try.func28 (by kernel_rfl) rfl) (unhide HXX)).mono ?_
        rintro e w7 ⟨v7, rfl, hO, hk7⟩
        have HO7 : Hid (OwnRI w.heap.size w7 v7 (sup9 k Bn bad)) := OwnRI.mono (show OwnRI w6.heap.size w7 v7 (sup9 k Bn bad) from hO) (by have := (unhide HB6).size; omega)
        have HK7 := hide (((unhide HB).trans ((unhide HB6).mono hWs)).trans (hk7.mono (by have := (unhide HB6).size; omega)))
        clear hO hk7
        go_wp2_with fail
        go_ret
        exact ⟨_, rfl, unhide HO7, unhide HK7⟩
  · have HO := hide (chk9_not hok)
    rw [supG, if_neg hok]
    clear hok
    go_enter Try.func11, Try.ntmps11
    go_wp2_with fail
    clear c0 c1 c2
    refine (gcheck_any D B P _).mono ?_
    rintro e w2 ⟨rfl, hk⟩
    rw [unhide HO]
    have HK := hide ((unhide HB).trans (hk.mono (unhide HB).size))
    clear hk
    go_wp2_with fail
    go_ret
    exact ⟨_, rfl, OwnRI.nil _ _, unhide HK⟩

end Go.Proofs.Ytnhhemecfcljbaa
