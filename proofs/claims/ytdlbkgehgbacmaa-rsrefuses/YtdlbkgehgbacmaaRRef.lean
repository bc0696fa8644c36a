/-
  RsRefuses's walk.
-/
import Derived.Test.YtdlbkgehgbacmaaQ5f
namespace Go.Proofs.Ytdlbkgehgbacmaa
open Go.RowKit

theorem rarg_nil (w : World) : RArg w (.slice none 0 0) 0 (fun _ => none) (fun _ => 0) [] := ⟨⟨none, 0, rfl, by simp, by simp, fun _ => rfl, .inl rfl⟩, fun i hi => by simp at hi⟩
theorem rarg_in {w : World} {a : Addr} {len cap base : Nat} {A : Nat → Option Addr} {L C : Nat → Nat} {Z : Nat → List Int} (hl : len ≤ cap) (hm : cap ≤ maxLen)
    (h : ∀ r, r < cap → w.cell? (a.add r) = some (.slice (A r) (L r) (C r)) ∧ L r ≤ C r ∧ C r ≤ maxLen ∧ (Z r).length = C r ∧ (∀ n ∈ Z r, (Lit.int .u8 n).wf = true) ∧ (A r = none → C r = 0) ∧ ∀ a', A r = some a' → base ≤ a'.block ∧ ∀ c, c < C r → w.cell? (a'.add c) = some (.int .u8 ((Z r).getD c 0))) :
    ∃ G A' C' l, RArg w (.slice (some a) len cap) G A' C' l := by
  have hg : ∀ r, r < len → ((List.range len).map (fun r => nats ((Z r).take (L r)))).getD r [] = nats ((Z r).take (L r)) := fun r hr => by
    rw [List.getD_eq_getElem?_getD, List.getElem?_map, List.getElem?_range hr]
    rfl
  have hlen : ((List.range len).map (fun r => nats ((Z r).take (L r)))).length = len := by simp
  have hL : ∀ r, r < len → (nats ((Z r).take (L r))).length = L r := fun r hr => by
    obtain ⟨_, h2, _, h4, _⟩ := h r (by omega)
    simp [nats]
    omega
  refine ⟨a.block, A, C, (List.range len).map (fun r => nats ((Z r).take (L r))), ⟨⟨some a, cap, by rw [hlen], by rw [hlen]; exact hl, hm, (fun h => by cases h), ?_⟩, fun i hi => ?_⟩⟩
  · rw [hlen]
    by_cases h0 : len = 0
    · exact .inl h0
    · obtain ⟨b, off, spot⟩ := a
      have hspot : spot = none := by simpa [Addr.add] using World.cell?_spot (h 0 (by omega)).1
      subst hspot
      refine .inr ⟨off, rfl, fun j hj => ?_⟩
      have := (h j (by omega)).1
      rw [Go.WideShapes.add_plain] at this
      rw [this]
      simp only [hg j hj, hL j hj]
  · rw [hlen] at hi
    rw [hg i hi, hL i hi]
    obtain ⟨_, h2, h3, h4, h5, h6, h7⟩ := h i (by omega)
    cases hA : A i with
    | none =>
      have hc := h6 hA
      have hz : (Z i).take (L i) = [] := List.eq_nil_of_length_eq_zero (by simp; omega)
      exact ⟨0, arg_in (by rw [hz]; simp; omega) (.inl hz) (by rw [hz]; simp [Byt]) h2 (fun _ => by omega) h3⟩
    | some a' =>
      obtain ⟨g, p1, p2, p3⟩ := row_in h2 h4 (fun c hc => (h7 a' hA).2 c (by omega)) h5
      exact ⟨g, arg_in p1 p2 p3 h2 (fun h => by cases h) h3⟩


/-- What Fix tells: what it must make, or no rows. -/
def FixO (l : List (List Nat)) (zs : List Int) (out : List (List Nat)) : Prop := (fixOk l zs = true → ∃ n, IsFix l zs out n) ∧ (fixOk l zs = false → out = [])
theorem FixO.once {l a b : List (List Nat)} {zs : List Int} (h : FixO l zs a) (h' : FixO l zs b) : a = b := by
  cases hf : fixOk l zs with
  | false => rw [h.2 hf, h'.2 hf]
  | true =>
    obtain ⟨hp, h4, h16⟩ := fixOk_parts hf
    obtain ⟨n, h1⟩ := h.1 hf
    obtain ⟨m, h2⟩ := h'.1 hf
    rw [h2.size_eq h1 (pk_parts hp).1 h4] at h2
    exact fix_once h4 h16 hp h1 h2
theorem fixO_of {l : List (List Nat)} {zs : List Int} {e : Ending} {w w' : World} (h : Below w.heap.size w w' ∧ ((fixOk l zs = true ∧ ∃ v' G' A' C' out n, e = .returned (.tuple #[v', .bool true]) ∧ RArg w' v' G' A' C' out ∧ IsFix l zs out n) ∨ (fixOk l zs = false ∧ e = .returned (.tuple #[.slice none 0 0, .bool false])))) :
    Below w.heap.size w w' ∧ ∃ xo xn xc G' A' C' out, e = .returned (.tuple #[.slice xo xn xc, .bool (fixOk l zs)]) ∧ RArg w' (.slice xo xn xc) G' A' C' out ∧ FixO l zs out := by
  refine ⟨h.1, ?_⟩
  rcases h.2 with ⟨hf, v', G', A', C', out, n, h1, h2, h3⟩ | ⟨hf, h1⟩
  · obtain ⟨xo, xn, xc, hv⟩ := h2.slice
    subst hv
    exact ⟨xo, xn, xc, G', A', C', out, by rw [hf]; exact h1, h2, ⟨fun _ => ⟨n, h3⟩, fun h => (by rw [hf] at h; cases h)⟩⟩
  · exact ⟨none, 0, 0, 0, _, _, [], by rw [hf]; exact h1, rarg_nil w', ⟨fun h => (by rw [hf] at h; cases h), fun _ => rfl⟩⟩
theorem fixA_any (v : Value) (G : Nat) (A : Nat → Option Addr) (C : Nat → Nat) (l : List (List Nat)) (vz : Value) (gz : Nat) (zs : List Int) (w : World) (hA : RArg w v G A C l) (hZ : ZArg w vz gz zs) (hlen : ∀ i, (l.getD i []).length ≤ 100000) :
    Calls Try.prog 18 #[v, vz] w fun e w' => Below w.heap.size w w' ∧ ∃ xo xn xc G' A' C' out, e = .returned (.tuple #[.slice xo xn xc, .bool (fixOk l zs)]) ∧ RArg w' (.slice xo xn xc) G' A' C' out ∧ FixO l zs out :=
  (fix_any v G A C l vz gz zs w hA hZ hlen).mono (fun _ _ h => fixO_of h)
theorem fixB_any (v : Value) (G : Nat) (A : Nat → Option Addr) (C : Nat → Nat) (l : List (List Nat)) (vz : Value) (gz : Nat) (zs : List Int) (w : World) (hA : RArg w v G A C l) (hZ : ZArg w vz gz zs) (hlen : ∀ i, (l.getD i []).length ≤ 100000) :
    Calls Try.prog 20 #[v, vz] w fun e w' => Below w.heap.size w w' ∧ ∃ xo xn xc G' A' C' out, e = .returned (.tuple #[.slice xo xn xc, .bool (fixOk l zs)]) ∧ RArg w' (.slice xo xn xc) G' A' C' out ∧ FixO l zs out :=
  (rfix_any v G A C l vz gz zs w hA hZ hlen).mono (fun _ _ h => fixO_of h)
theorem zarg_in {W : World} {ao : Option Addr} {n c g : Nat} {zs : List Int} (hl : zs.length = n) (hr : IRow W ao g zs) (h1 : n ≤ c) (h2 : c ≤ maxLen) (h3 : ao = none → c = 0) (hb : ∀ z ∈ zs, -9223372036854775808 ≤ z ∧ z ≤ 9223372036854775807) : ZArg W (.slice ao n c) g zs :=
  ⟨⟨ao, c, by rw [hl], by rw [hl]; exact h1, h2, h3, hr⟩, hb⟩
theorem below_drew (w : World) : Below w.heap.size w w.drew := ⟨rfl, rfl, rfl, Nat.le_refl _, fun _ _ => rfl⟩
theorem cells_at {W : World} {g j : Nat} {cs : Array Value} {t : TypeId} {u : Value} (h : W.heap[g]? = some (.cells cs t (0, 0))) (hu : cs[j]? = some u) : W.cell? ⟨g, j, none⟩ = some u := by simp [World.cell?, h, hu]

set_option maxRecDepth 100000 in
set_option maxHeartbeats 16000000 in
theorem rref_walk {w : World} (vr : Value) (Gr : Nat) (Ar : Nat → Option Addr) (Cr : Nat → Nat) (raw : List (List Nat)) (zo : Option Addr) (gz zlen zcap : Nat) (zr : List Int) (hzl : zr.length = zlen) (hzr : IRow w zo gz zr) (hzc : zlen ≤ zcap) (hzm : zcap ≤ maxLen) (hzn : zo = none → zlen = 0 ∧ zcap = 0) (hzb : ∀ z ∈ zr, -9223372036854775808 ≤ z ∧ z ≤ 9223372036854775807) (v : Value) (gb : Nat) (b : List Nat) (n0 : Int) (hR : RArg w vr Gr Ar Cr raw) (hA : Arg w v gb b) :
    Calls Try.prog 5 #[vr, .slice zo zlen zcap, v, .int .i64 n0] w fun e w' => e = .returned (.bool true) ∧ Below w.heap.size w w' := by
  have HRAW := hide hR
  have HA := hide hA
  have HZR := hide hzr
  have HZL := hide hzl
  have HZB := hide hzb
  have HZN := hide hzn
  obtain ⟨ao, c, hv, _⟩ := hA.ex
  obtain ⟨ro, rcp, hvr, _⟩ := hR.ex
  subst hv
  subst hvr
  obtain ⟨rn, hrn⟩ : ∃ rn, raw.length = rn := ⟨_, rfl⟩
  rw [hrn] at HRAW ⊢
  have HRN := hide hrn
  clear hA hR hzr hzl hzb hrn hzn
  go_enter Try.func5, Try.ntmps5
  go_wp2_with fail
  refine (known_any w).mono ?_
  rintro e w1 ⟨rfl, hk⟩
  have HB := hide hk
  replace HA := hide ((unhide HA).below hk)
  replace HRAW := hide ((unhide HRAW).below hk)
  replace HZR := hide ((unhide HZR).below hk)
  clear hk
  go_wp2_with fail
  refine (few_any _ Gr Ar Cr raw w1 (unhide HRAW)).mono ?_
  rintro e w1' ⟨rfl, hw1⟩
  subst hw1
  cases hfew : few raw with
  | false =>
    clear hfew
    go_wp2_with fail
    go_ret
    exact ⟨rfl, unhide HB⟩
  | true =>
    have HRL : Hid (∀ i, (raw.getD i []).length ≤ 100000) := (few_len hfew).2
    have hrn20 : rn ≤ 20 := by rw [← unhide HRN]; exact (few_len hfew).1
    clear hfew
    by_cases hz5 : 5 < zlen
    · have e1 : (5 : Int) < (zlen : Int) := by omega
      go_wp2_with fail
      go_ret
      exact ⟨rfl, unhide HB⟩
    have e1 : (zlen : Int) ≤ 5 := by omega
    go_wp2_with fail
    refine (within_any n0 16 w1' (by omega) (by omega)).mono ?_
    rintro e w2 ⟨rfl, hw2⟩
    subst hw2
    obtain ⟨m, hm⟩ : ∃ m : Nat, n0 % 16 = (m : Int) := ⟨(n0 % 16).toNat, by omega⟩
    have hm12 : m < 16 := by omega
    rw [hm]
    clear hm
    obtain ⟨n, hn⟩ : ∃ n, 3 + m = n := ⟨_, rfl⟩
    have hn1 : (3 : Int) + (m : Int) = (n : Int) := by omega
    have hn2 : 3 ≤ n ∧ n ≤ 18 := by omega
    obtain ⟨hn2, hn3⟩ := hn2
    clear hn hm12
    go_wp2_with fail
    refine (rows_any _ gb b n 3 (by omega) (by omega) w2 (unhide HA)).mono ?_
    rintro e w4 ⟨v9, ps, l, rfl, hO, hl, hs, hk⟩
    replace HB := hide ((unhide HB).trans (hk.mono (unhide HB).size))
    replace HRAW := hide ((unhide HRAW).below hk)
    replace HZR := hide ((unhide HZR).below hk)
    obtain ⟨Gl, hRl, _⟩ := hO.arg
    obtain ⟨lo, ln, lc, hv9⟩ := hRl.slice
    subst hv9
    have HRl := hide hRl
    have HLL : Hid (∀ i, (l.getD i []).length ≤ 100000) := len_of hl hs (by omega)
    have hln : ln = n := by
      obtain ⟨_, _, h1, _⟩ := hRl.ex
      cases h1
      exact hl
    subst hln
    clear hRl hO hl hs hk HA
    go_wp2_with fail
    have hka : Below w4.heap.size w4 (w4.alloc (.cells #[.slice ro rn rcp, .slice lo ln lc] 23)) := (Below.refl _ _).alloc (Nat.le_refl _) _
    have HHI := hide (World.alloc_heap_new w4 (.cells #[.slice ro rn rcp, .slice lo ln lc] 23))
    replace HB := hide ((unhide HB).trans (hka.mono (unhide HB).size))
    replace HRAW := hide ((unhide HRAW).below hka)
    replace HRl := hide ((unhide HRl).below hka)
    replace HZR := hide ((unhide HZR).below hka)
    obtain ⟨gin, hgin⟩ : ∃ q, w4.heap.size = q := ⟨_, rfl⟩
    rw [hgin] at HHI ⊢
    clear hka
    generalize w4.alloc (.cells #[.slice ro rn rcp, .slice lo ln lc] 23) = wI at HHI HB HRAW HRl HZR ⊢
    clear hgin
    go_loopw [11] (fun p wr => ∃ i : Nat, p = .int .i64 i ∧ i ≤ 2 ∧ Below wI.heap.size wI wr) (fun p _ => 2 - (intOf p).toNat)
    case atStart => exact ⟨0, rfl, by omega, Below.refl _ _⟩
    case round =>
      obtain ⟨i, rfl, hi, hK⟩ := hrel
      have HK := hide hK
      clear hK
      by_cases hlt : i < 2
      · have hi1 : (i : Int) < 2 := by omega
        obtain ⟨xo, xn, xc, G, A, C, x, hcx, hRX, hxn, hXL⟩ : ∃ xo xn xc G A C x, wI.cell? ⟨gin, i, none⟩ = some (.slice xo xn xc) ∧ RArg wI (.slice xo xn xc) G A C x ∧ xn ≤ 20 ∧ ∀ i, (x.getD i []).length ≤ 100000 := by
          by_cases h0 : i = 0
          · subst h0
            exact ⟨_, _, _, Gr, Ar, Cr, raw, cells_at (unhide HHI) rfl, unhide HRAW, hrn20, unhide HRL⟩
          · have h1 : i = 1 := by omega
            subst h1
            exact ⟨_, _, _, Gl, _, _, l, cells_at (unhide HHI) rfl, unhide HRl, by omega, unhide HLL⟩
        have HCI := hide ((kp_below (unhide HK)).cell hcx (by simp))
        have HRX := hide (hRX.below (unhide HK))
        have HXL := hide hXL
        have HZRr := hide ((unhide HZR).below (unhide HK))
        clear hcx hRX hXL
        obtain ⟨m2, hm2⟩ : ∃ q, xn + 2 = q := ⟨_, rfl⟩
        obtain ⟨m1, hm1⟩ : ∃ q, xn + 1 = q := ⟨_, rfl⟩
        have hm2' : (xn : Int) + 2 = (m2 : Int) := by omega
        have hm1' : (xn : Int) + 1 = (m1 : Int) := by omega
        have hw2 : IntKind.i64.wrap (m2 : Int) = (m2 : Int) := IntWalk.i64_in _ ⟨by omega, by omega⟩
        have hw1 : IntKind.i64.wrap (m1 : Int) = (m1 : Int) := IntWalk.i64_in _ ⟨by omega, by omega⟩
        have hm22 : 0 < m2 ∧ m2 < 1000 := by omega
        have hm12 : 0 < m1 ∧ m1 < 1000 := by omega
        clear hm2 hm1
        go_wp2_with fail
        refine wp_region_noPanic ?_
        refine wp_region_held_drew (S := fun W => Kp [] wr W) (by kernel_rfl) ((Kp.refl _ _).drew) (fun hHeld => ?_)
        have HH := hide hHeld
        clear hHeld
        refine takeL (i := 0) (v := ?_) rfl (by kernel_rfl) (by kernel_rfl) (by kernel_rfl) (fun _ _ _ h => h) (Or.inl ⟨by rfl, ?_⟩) (unhide HH) ?_
        rotate_left 1
        · intro W hSW; go_simp; all_goals (with_reducible rfl)
        (try simp only [Act.put, List.setIfInBounds_toArray, List.set_cons_zero, List.set_cons_succ])
        refine takeL (i := 1) (v := ?_) rfl (by kernel_rfl) (by kernel_rfl) (by kernel_rfl) (fun _ _ _ h => h) (Or.inl ⟨by rfl, ?_⟩) (unhide HH) ?_
        rotate_left 1
        · intro W hSW; go_simp; all_goals (with_reducible rfl)
        (try simp only [Act.put, List.setIfInBounds_toArray, List.set_cons_zero, List.set_cons_succ])
        refine takeL (i := 2) (v := ?_) rfl (by kernel_rfl) (by kernel_rfl) (by kernel_rfl) (fun _ _ _ h => h) (Or.inl ⟨by rfl, ?_⟩) (unhide HH) ?_
        rotate_left 1
        · intro W hSW; go_simp; all_goals (with_reducible rfl)
        (try simp only [Act.put, List.setIfInBounds_toArray, List.set_cons_zero, List.set_cons_succ])
        refine takeL (i := 3) (v := ?_) rfl (by kernel_rfl) (by kernel_rfl) (by kernel_rfl) (fun _ _ _ h => h) (Or.inl ⟨by rfl, ?_⟩) (unhide HH) ?_
        rotate_left 1
        · intro W hSW; go_simp; all_goals (with_reducible rfl)
        (try simp only [Act.put, List.setIfInBounds_toArray, List.set_cons_zero, List.set_cons_succ])
        refine takeL (i := 4) (v := ?_) rfl (by kernel_rfl) (by kernel_rfl) (by kernel_rfl) (fun _ _ _ h => h) (Or.inl ⟨by rfl, ?_⟩) (unhide HH) ?_
        rotate_left 1
        · intro W hSW; go_simp; all_goals (with_reducible rfl)
        (try simp only [Act.put, List.setIfInBounds_toArray, List.set_cons_zero, List.set_cons_succ])
        refine takeL (i := 5) (v := ?_) rfl (by kernel_rfl) (by kernel_rfl) (by kernel_rfl) (fun _ _ _ h => h) (Or.inl ⟨by rfl, ?_⟩) (unhide HH) ?_
        rotate_left 1
        · intro W1 hSW; have hc := hSW.cell (unhide HCI) (by simp); clear hSW; go_simp; all_goals (with_reducible rfl)
        (try simp only [Act.put, List.setIfInBounds_toArray, List.set_cons_zero, List.set_cons_succ])
        refine takeL (i := 6) (v := ?_) rfl (by kernel_rfl) (by kernel_rfl) (by kernel_rfl) (fun _ _ _ h => h) (Or.inl ⟨by rfl, ?_⟩) (unhide HH) ?_
        rotate_left 1
        · intro W hSW; go_simp; all_goals (with_reducible rfl)
        (try simp only [Act.put, List.setIfInBounds_toArray, List.set_cons_zero, List.set_cons_succ])
        refine takeL (i := 7) (v := ?_) rfl (by kernel_rfl) (by kernel_rfl) (by kernel_rfl) (fun _ _ _ h => h) (Or.inl ⟨by rfl, ?_⟩) (unhide HH) ?_
        rotate_left 1
        · intro W hSW; go_simp; all_goals (with_reducible rfl)
        (try simp only [Act.put, List.setIfInBounds_toArray, List.set_cons_zero, List.set_cons_succ])
        refine takeL (i := 9) (v := ?_) rfl (by kernel_rfl) (by kernel_rfl) (by kernel_rfl) (fun _ _ _ h => h) (Or.inl ⟨by rfl, ?_⟩) (unhide HH) ?_
        rotate_left 1
        · intro W hSW; go_simp; all_goals (with_reducible rfl)
        (try simp only [Act.put, List.setIfInBounds_toArray, List.set_cons_zero, List.set_cons_succ])
        refine takeL (i := 10) (v := ?_) rfl (by kernel_rfl) (by kernel_rfl) (by kernel_rfl) (fun _ _ _ h => h) (Or.inl ⟨by rfl, ?_⟩) (unhide HH) ?_
        rotate_left 1
        · intro W hSW; go_simp; all_goals (with_reducible rfl)
        (try simp only [Act.put, List.setIfInBounds_toArray, List.set_cons_zero, List.set_cons_succ])
        refine takeL (i := 11) (v := ?_) rfl (by kernel_rfl) (by kernel_rfl) (by kernel_rfl) (fun _ _ _ h => h) (Or.inl ⟨by rfl, ?_⟩) (unhide HH) ?_
        rotate_left 1
        · intro W hSW; go_simp; all_goals (with_reducible rfl)
        (try simp only [Act.put, List.setIfInBounds_toArray, List.set_cons_zero, List.set_cons_succ])
        refine takeL (i := 12) (v := ?_) rfl (by kernel_rfl) (by kernel_rfl) (by kernel_rfl) (fun _ _ _ h => h) (Or.inl ⟨by rfl, ?_⟩) (unhide HH) ?_
        rotate_left 1
        · intro W hSW; go_simp; all_goals (with_reducible rfl)
        (try simp only [Act.put, List.setIfInBounds_toArray, List.set_cons_zero, List.set_cons_succ])
        refine takeL (i := 13) (v := ?_) rfl (by kernel_rfl) (by kernel_rfl) (by kernel_rfl) (fun _ _ _ h => h) (Or.inl ⟨by rfl, ?_⟩) (unhide HH) ?_
        rotate_left 1
        · intro W1 hSW; have hc := hSW.cell (unhide HCI) (by simp); clear hSW; go_simp; all_goals (with_reducible rfl)
        (try simp only [Act.put, List.setIfInBounds_toArray, List.set_cons_zero, List.set_cons_succ])
        refine takeL (i := 14) (v := ?_) rfl (by kernel_rfl) (by kernel_rfl) (by kernel_rfl) (fun _ _ _ h => h) (Or.inl ⟨by rfl, ?_⟩) (unhide HH) ?_
        rotate_left 1
        · intro W hSW; go_simp; all_goals (with_reducible rfl)
        (try simp only [Act.put, List.setIfInBounds_toArray, List.set_cons_zero, List.set_cons_succ])
        refine takeL (i := 15) (v := ?_) rfl (by kernel_rfl) (by kernel_rfl) (by kernel_rfl) (fun _ _ _ h => h) (Or.inl ⟨by rfl, ?_⟩) (unhide HH) ?_
        rotate_left 1
        · intro W hSW; go_simp; all_goals (with_reducible rfl)
        (try simp only [Act.put, List.setIfInBounds_toArray, List.set_cons_zero, List.set_cons_succ])
        refine wpAnyH_ready (rs := [8]) (by kernel_rfl) (by simp) ?_
        refine consL rfl (fun K hK => ?_) AllReadyH.nil
        go_simp
        refine (places_any zo gz zlen zcap zr (unhide HZL) ((unhide HZRr).below (below_drew _)) hzc hzm (unhide HZB) m2 3 (by omega) (by omega) (by omega)).mono ?_
        rintro e9 w3 ⟨v3, pl3, rfl, hnd, hplN, hpl2, hOI, hk9⟩
        obtain ⟨gI3, hZA, _⟩ := places_z (n := m2) hOI (by omega) hplN
        obtain ⟨aI3, cI3, hvI, _⟩ := hZA.ex
        subst hvI
        obtain ⟨nI3, hnI3⟩ : ∃ q, (ints pl3).length = q := ⟨_, rfl⟩
        rw [hnI3] at hZA ⊢
        have HZA3 := hide hZA
        have HK3 : Hid (Below wr.heap.size wr w3) := (below_drew wr).trans (hk9.mono (below_drew wr).size)
        have HKL3 := hide hk9
        clear hnd hplN hpl2 hOI hk9 hZA hnI3
        go_wp2_with fail
        refine hK.out _ _ (kp_below (unhide HK3)) (fun hHeld => ?_)
        clear hK K HH
        have HH := hide hHeld
        clear hHeld
        (try simp only [Act.put, List.setIfInBounds_toArray, List.set_cons_zero, List.set_cons_succ])
        refine wpAnyH_ready (rs := [16]) (by kernel_rfl) (by simp) ?_
        refine consL rfl (fun K hK => ?_) AllReadyH.nil
        go_simp
        refine (places_any zo gz zlen zcap zr (unhide HZL) ((unhide HZRr).below (unhide HK3)) hzc hzm (unhide HZB) m1 2 (by omega) (by omega) (by omega)).mono ?_
        rintro e9 w4 ⟨v4, pl4, rfl, hnd, hplN, hpl2, hOI, hk9⟩
        obtain ⟨gI4, hZA, _⟩ := places_z (n := m1) hOI (by omega) hplN
        obtain ⟨aI4, cI4, hvI, _⟩ := hZA.ex
        subst hvI
        obtain ⟨nI4, hnI4⟩ : ∃ q, (ints pl4).length = q := ⟨_, rfl⟩
        rw [hnI4] at hZA ⊢
        have HZA4 := hide hZA
        have HK4 : Hid (Below wr.heap.size wr w4) := (unhide HK3).trans (hk9.mono (unhide HK3).size)
        have HKL4 := hide hk9
        clear hnd hplN hpl2 hOI hk9 hZA hnI4
        go_wp2_with fail
        refine hK.out _ _ (kp_below (unhide HK4)) (fun hHeld => ?_)
        clear hK K HH
        have HH := hide hHeld
        clear hHeld
        (try simp only [Act.put, List.setIfInBounds_toArray, List.set_cons_zero, List.set_cons_succ])
        refine wpAnyH_ready (rs := [17]) (by kernel_rfl) (by simp) ?_
        refine consL rfl (fun K hK => ?_) AllReadyH.nil
        go_simp
        have HKB : Hid (Below wr.heap.size wr (w4.alloc (.cells #[.slice zo zlen zcap, .slice aI3 nI3 cI3, .slice aI4 nI4 cI4] 31))) := (unhide HK4).trans (((Below.refl _ _).alloc (Nat.le_refl _) _).mono (unhide HK4).size)
        have HHB := hide (World.alloc_heap_new w4 (.cells #[.slice zo zlen zcap, .slice aI3 nI3 cI3, .slice aI4 nI4 cI4] 31))
        have HZ3 := hide (((unhide HZA3).below (unhide HKL4)).below ((Below.refl _ w4).alloc (Nat.le_refl _) (.cells #[.slice zo zlen zcap, .slice aI3 nI3 cI3, .slice aI4 nI4 cI4] 31)))
        have HZ4 := hide ((unhide HZA4).below ((Below.refl _ w4).alloc (Nat.le_refl _) (.cells #[.slice zo zlen zcap, .slice aI3 nI3 cI3, .slice aI4 nI4 cI4] 31)))
        refine hK.out _ _ (kp_below (unhide HKB)) (fun hHeld => ?_)
        clear hK K HH
        have HH := hide hHeld
        clear hHeld
        (try simp only [Act.put, List.setIfInBounds_toArray, List.set_cons_zero, List.set_cons_succ])
        refine takeL (i := 18) (v := ?_) rfl (by kernel_rfl) (by kernel_rfl) (by kernel_rfl) (fun _ _ _ h => h) (Or.inl ⟨by rfl, ?_⟩) (unhide HH) ?_
        rotate_left 1
        · intro W hSW; go_simp; all_goals (with_reducible rfl)
        (try simp only [Act.put, List.setIfInBounds_toArray, List.set_cons_zero, List.set_cons_succ])
        refine wpAnyH_done (by kernel_rfl) ?_ _
        refine NoPanic.normal ?_
        obtain ⟨gat, hgat⟩ : ∃ q, w4.heap.size = q := ⟨_, rfl⟩
        rw [hgat] at HHB ⊢
        clear HK3 HK4 HKL3 HKL4 HZA3 HZA4
        generalize w4.alloc (.cells #[.slice zo zlen zcap, .slice aI3 nI3 cI3, .slice aI4 nI4 cI4] 31) = wA at HKB HHB HZ3 HZ4 ⊢
        clear hgat
        go_wp2_with fail
        go_loopw [13] (fun p wr => ∃ k : Nat, p = .int .i64 k ∧ k ≤ 3 ∧ Below wA.heap.size wA wr) (fun p _ => 3 - (intOf p).toNat)
        case atStart => exact ⟨0, rfl, by omega, Below.refl _ _⟩
        case round =>
          rename_i wr0 _ _
          obtain ⟨k, rfl, hk, hK⟩ := hrel
          have HKA := hide hK
          clear hK
          by_cases hlt3 : k < 3
          · have hk1 : (k : Int) < 3 := by omega
            obtain ⟨ko, kn, kc, gk, zk, hck, hZK⟩ : ∃ ko kn kc gk zk, wA.cell? ⟨gat, k, none⟩ = some (.slice ko kn kc) ∧ ZArg wA (.slice ko kn kc) gk zk := by
              by_cases h0 : k = 0
              · subst h0
                exact ⟨_, _, _, gz, zr, cells_at (unhide HHB) rfl, zarg_in (unhide HZL) ((unhide HZRr).below (unhide HKB)) hzc hzm (fun h => (unhide HZN h).2) (unhide HZB)⟩
              · by_cases h1 : k = 1
                · subst h1
                  exact ⟨_, _, _, _, _, cells_at (unhide HHB) rfl, unhide HZ3⟩
                · have h2 : k = 2 := by omega
                  subst h2
                  exact ⟨_, _, _, _, _, cells_at (unhide HHB) rfl, unhide HZ4⟩
            replace HCI := hide ((kp_below ((unhide HKB).trans ((unhide HKA).mono (unhide HKB).size))).cell (unhide HCI) (by simp))
            have HCK := hide ((kp_below (unhide HKA)).cell hck (by simp))
            replace HRX := hide ((unhide HRX).below ((unhide HKB).trans ((unhide HKA).mono (unhide HKB).size)))
            have HZK := hide (hZK.below (unhide HKA))
            clear hck hZK
            go_wp2_with fail
            refine wp_region_noPanic ?_
            refine wp_region_held_drew (S := fun W => Kp [] wr W) (by kernel_rfl) ((Kp.refl _ _).drew) (fun hHeld => ?_)
            have HH := hide hHeld
            clear hHeld
            refine takeL (i := 0) (v := ?_) rfl (by kernel_rfl) (by kernel_rfl) (by kernel_rfl) (fun _ _ _ h => h) (Or.inl ⟨by rfl, ?_⟩) (unhide HH) ?_
            rotate_left 1
            · intro W hSW; go_simp; all_goals (with_reducible rfl)
            (try simp only [Act.put, List.setIfInBounds_toArray, List.set_cons_zero, List.set_cons_succ])
            refine takeL (i := 1) (v := ?_) rfl (by kernel_rfl) (by kernel_rfl) (by kernel_rfl) (fun _ _ _ h => h) (Or.inl ⟨by rfl, ?_⟩) (unhide HH) ?_
            rotate_left 1
            · intro W hSW; go_simp; all_goals (with_reducible rfl)
            (try simp only [Act.put, List.setIfInBounds_toArray, List.set_cons_zero, List.set_cons_succ])
            refine takeL (i := 2) (v := ?_) rfl (by kernel_rfl) (by kernel_rfl) (by kernel_rfl) (fun _ _ _ h => h) (Or.inl ⟨by rfl, ?_⟩) (unhide HH) ?_
            rotate_left 1
            · intro W hSW; go_simp; all_goals (with_reducible rfl)
            (try simp only [Act.put, List.setIfInBounds_toArray, List.set_cons_zero, List.set_cons_succ])
            refine takeL (i := 3) (v := ?_) rfl (by kernel_rfl) (by kernel_rfl) (by kernel_rfl) (fun _ _ _ h => h) (Or.inl ⟨by rfl, ?_⟩) (unhide HH) ?_
            rotate_left 1
            · intro W1 hSW; have hc := hSW.cell (unhide HCI) (by simp); clear hSW; go_simp; all_goals (with_reducible rfl)
            (try simp only [Act.put, List.setIfInBounds_toArray, List.set_cons_zero, List.set_cons_succ])
            refine takeL (i := 4) (v := ?_) rfl (by kernel_rfl) (by kernel_rfl) (by kernel_rfl) (fun _ _ _ h => h) (Or.inl ⟨by rfl, ?_⟩) (unhide HH) ?_
            rotate_left 1
            · intro W hSW; go_simp; all_goals (with_reducible rfl)
            (try simp only [Act.put, List.setIfInBounds_toArray, List.set_cons_zero, List.set_cons_succ])
            refine takeL (i := 5) (v := ?_) rfl (by kernel_rfl) (by kernel_rfl) (by kernel_rfl) (fun _ _ _ h => h) (Or.inl ⟨by rfl, ?_⟩) (unhide HH) ?_
            rotate_left 1
            · intro W hSW; go_simp; all_goals (with_reducible rfl)
            (try simp only [Act.put, List.setIfInBounds_toArray, List.set_cons_zero, List.set_cons_succ])
            refine takeL (i := 6) (v := ?_) rfl (by kernel_rfl) (by kernel_rfl) (by kernel_rfl) (fun _ _ _ h => h) (Or.inl ⟨by rfl, ?_⟩) (unhide HH) ?_
            rotate_left 1
            · intro W hSW; go_simp; all_goals (with_reducible rfl)
            (try simp only [Act.put, List.setIfInBounds_toArray, List.set_cons_zero, List.set_cons_succ])
            refine takeL (i := 7) (v := ?_) rfl (by kernel_rfl) (by kernel_rfl) (by kernel_rfl) (fun _ _ _ h => h) (Or.inl ⟨by rfl, ?_⟩) (unhide HH) ?_
            rotate_left 1
            · intro W1 hSW; have hc := hSW.cell (unhide HCK) (by simp); clear hSW; go_simp; all_goals (with_reducible rfl)
            (try simp only [Act.put, List.setIfInBounds_toArray, List.set_cons_zero, List.set_cons_succ])
            refine wpAnyH_ready (rs := [8]) (by kernel_rfl) (by simp) ?_
            refine consL rfl (fun K hK => ?_) AllReadyH.nil
            go_simp
            refine (fixA_any _ G A C x _ gk zk _ ((unhide HRX).below (below_drew _)) ((unhide HZK).below (below_drew _)) (unhide HXL)).mono ?_
            rintro e9 w5 ⟨hk9, xo5, xn5, xc5, G5, A5, C5, out5, rfl, hR9, hF9⟩
            have HR5 := hide hR9
            have HF5 := hide hF9
            have HK5 : Hid (Below wr.heap.size wr w5) := (below_drew wr).trans hk9
            clear hR9 hF9 hk9
            go_wp2_with fail
            refine hK.out _ _ (kp_below (unhide HK5)) (fun hHeld => ?_)
            clear hK K HH
            have HH := hide hHeld
            clear hHeld
            (try simp only [Act.put, List.setIfInBounds_toArray, List.set_cons_zero, List.set_cons_succ])
            refine takeL (i := 9) (v := ?_) rfl (by kernel_rfl) (by kernel_rfl) (by kernel_rfl) (fun _ _ _ h => h) (Or.inl ⟨by rfl, ?_⟩) (unhide HH) ?_
            rotate_left 1
            · intro W hSW; go_simp; all_goals (with_reducible rfl)
            (try simp only [Act.put, List.setIfInBounds_toArray, List.set_cons_zero, List.set_cons_succ])
            refine takeL (i := 10) (v := ?_) rfl (by kernel_rfl) (by kernel_rfl) (by kernel_rfl) (fun _ _ _ h => h) (Or.inl ⟨by rfl, ?_⟩) (unhide HH) ?_
            rotate_left 1
            · intro W hSW; go_simp; all_goals (with_reducible rfl)
            (try simp only [Act.put, List.setIfInBounds_toArray, List.set_cons_zero, List.set_cons_succ])
            refine takeL (i := 11) (v := ?_) rfl (by kernel_rfl) (by kernel_rfl) (by kernel_rfl) (fun _ _ _ h => h) (Or.inl ⟨by rfl, ?_⟩) (unhide HH) ?_
            rotate_left 1
            · intro W hSW; go_simp; all_goals (with_reducible rfl)
            (try simp only [Act.put, List.setIfInBounds_toArray, List.set_cons_zero, List.set_cons_succ])
            refine takeL (i := 12) (v := ?_) rfl (by kernel_rfl) (by kernel_rfl) (by kernel_rfl) (fun _ _ _ h => h) (Or.inl ⟨by rfl, ?_⟩) (unhide HH) ?_
            rotate_left 1
            · intro W hSW; go_simp; all_goals (with_reducible rfl)
            (try simp only [Act.put, List.setIfInBounds_toArray, List.set_cons_zero, List.set_cons_succ])
            refine takeL (i := 13) (v := ?_) rfl (by kernel_rfl) (by kernel_rfl) (by kernel_rfl) (fun _ _ _ h => h) (Or.inl ⟨by rfl, ?_⟩) (unhide HH) ?_
            rotate_left 1
            · intro W hSW; go_simp; all_goals (with_reducible rfl)
            (try simp only [Act.put, List.setIfInBounds_toArray, List.set_cons_zero, List.set_cons_succ])
            refine wpAnyH_done (by kernel_rfl) ?_ _
            refine NoPanic.normal ?_
            replace HCI := hide ((kp_below (unhide HK5)).cell (unhide HCI) (by simp))
            replace HCK := hide ((kp_below (unhide HK5)).cell (unhide HCK) (by simp))
            replace HRX := hide ((unhide HRX).below (unhide HK5))
            replace HZK := hide ((unhide HZK).below (unhide HK5))
            go_wp2_with fail
            refine wp_region_noPanic ?_
            refine wp_region_held_drew (S := fun W => Kp [] w5 W) (by kernel_rfl) ((Kp.refl _ _).drew) (fun hHeld => ?_)
            have HH := hide hHeld
            clear hHeld
            refine takeL (i := 0) (v := ?_) rfl (by kernel_rfl) (by kernel_rfl) (by kernel_rfl) (fun _ _ _ h => h) (Or.inl ⟨by rfl, ?_⟩) (unhide HH) ?_
            rotate_left 1
            · intro W hSW; go_simp; all_goals (with_reducible rfl)
            (try simp only [Act.put, List.setIfInBounds_toArray, List.set_cons_zero, List.set_cons_succ])
            refine takeL (i := 1) (v := ?_) rfl (by kernel_rfl) (by kernel_rfl) (by kernel_rfl) (fun _ _ _ h => h) (Or.inl ⟨by rfl, ?_⟩) (unhide HH) ?_
            rotate_left 1
            · intro W hSW; go_simp; all_goals (with_reducible rfl)
            (try simp only [Act.put, List.setIfInBounds_toArray, List.set_cons_zero, List.set_cons_succ])
            refine takeL (i := 2) (v := ?_) rfl (by kernel_rfl) (by kernel_rfl) (by kernel_rfl) (fun _ _ _ h => h) (Or.inl ⟨by rfl, ?_⟩) (unhide HH) ?_
            rotate_left 1
            · intro W hSW; go_simp; all_goals (with_reducible rfl)
            (try simp only [Act.put, List.setIfInBounds_toArray, List.set_cons_zero, List.set_cons_succ])
            refine takeL (i := 3) (v := ?_) rfl (by kernel_rfl) (by kernel_rfl) (by kernel_rfl) (fun _ _ _ h => h) (Or.inl ⟨by rfl, ?_⟩) (unhide HH) ?_
            rotate_left 1
            · intro W1 hSW; have hc := hSW.cell (unhide HCI) (by simp); clear hSW; go_simp; all_goals (with_reducible rfl)
            (try simp only [Act.put, List.setIfInBounds_toArray, List.set_cons_zero, List.set_cons_succ])
            refine takeL (i := 4) (v := ?_) rfl (by kernel_rfl) (by kernel_rfl) (by kernel_rfl) (fun _ _ _ h => h) (Or.inl ⟨by rfl, ?_⟩) (unhide HH) ?_
            rotate_left 1
            · intro W hSW; go_simp; all_goals (with_reducible rfl)
            (try simp only [Act.put, List.setIfInBounds_toArray, List.set_cons_zero, List.set_cons_succ])
            refine takeL (i := 5) (v := ?_) rfl (by kernel_rfl) (by kernel_rfl) (by kernel_rfl) (fun _ _ _ h => h) (Or.inl ⟨by rfl, ?_⟩) (unhide HH) ?_
            rotate_left 1
            · intro W hSW; go_simp; all_goals (with_reducible rfl)
            (try simp only [Act.put, List.setIfInBounds_toArray, List.set_cons_zero, List.set_cons_succ])
            refine takeL (i := 6) (v := ?_) rfl (by kernel_rfl) (by kernel_rfl) (by kernel_rfl) (fun _ _ _ h => h) (Or.inl ⟨by rfl, ?_⟩) (unhide HH) ?_
            rotate_left 1
            · intro W hSW; go_simp; all_goals (with_reducible rfl)
            (try simp only [Act.put, List.setIfInBounds_toArray, List.set_cons_zero, List.set_cons_succ])
            refine takeL (i := 7) (v := ?_) rfl (by kernel_rfl) (by kernel_rfl) (by kernel_rfl) (fun _ _ _ h => h) (Or.inl ⟨by rfl, ?_⟩) (unhide HH) ?_
            rotate_left 1
            · intro W1 hSW; have hc := hSW.cell (unhide HCK) (by simp); clear hSW; go_simp; all_goals (with_reducible rfl)
            (try simp only [Act.put, List.setIfInBounds_toArray, List.set_cons_zero, List.set_cons_succ])
            refine wpAnyH_ready (rs := [8]) (by kernel_rfl) (by simp) ?_
            refine consL rfl (fun K hK => ?_) AllReadyH.nil
            go_simp
            refine (fixB_any _ G A C x _ gk zk _ ((unhide HRX).below (below_drew _)) ((unhide HZK).below (below_drew _)) (unhide HXL)).mono ?_
            rintro e9 w6 ⟨hk9, xo6, xn6, xc6, G6, A6, C6, out6, rfl, hR9, hF9⟩
            have HR6 := hide hR9
            have HF6 := hide hF9
            have HK6 : Hid (Below w5.heap.size w5 w6) := (below_drew w5).trans hk9
            clear hR9 hF9 hk9
            go_wp2_with fail
            refine hK.out _ _ (kp_below (unhide HK6)) (fun hHeld => ?_)
            clear hK K HH
            have HH := hide hHeld
            clear hHeld
            (try simp only [Act.put, List.setIfInBounds_toArray, List.set_cons_zero, List.set_cons_succ])
            refine takeL (i := 9) (v := ?_) rfl (by kernel_rfl) (by kernel_rfl) (by kernel_rfl) (fun _ _ _ h => h) (Or.inl ⟨by rfl, ?_⟩) (unhide HH) ?_
            rotate_left 1
            · intro W hSW; go_simp; all_goals (with_reducible rfl)
            (try simp only [Act.put, List.setIfInBounds_toArray, List.set_cons_zero, List.set_cons_succ])
            refine takeL (i := 10) (v := ?_) rfl (by kernel_rfl) (by kernel_rfl) (by kernel_rfl) (fun _ _ _ h => h) (Or.inl ⟨by rfl, ?_⟩) (unhide HH) ?_
            rotate_left 1
            · intro W hSW; go_simp; all_goals (with_reducible rfl)
            (try simp only [Act.put, List.setIfInBounds_toArray, List.set_cons_zero, List.set_cons_succ])
            refine takeL (i := 11) (v := ?_) rfl (by kernel_rfl) (by kernel_rfl) (by kernel_rfl) (fun _ _ _ h => h) (Or.inl ⟨by rfl, ?_⟩) (unhide HH) ?_
            rotate_left 1
            · intro W hSW; go_simp; all_goals (with_reducible rfl)
            (try simp only [Act.put, List.setIfInBounds_toArray, List.set_cons_zero, List.set_cons_succ])
            refine takeL (i := 12) (v := ?_) rfl (by kernel_rfl) (by kernel_rfl) (by kernel_rfl) (fun _ _ _ h => h) (Or.inl ⟨by rfl, ?_⟩) (unhide HH) ?_
            rotate_left 1
            · intro W hSW; go_simp; all_goals (with_reducible rfl)
            (try simp only [Act.put, List.setIfInBounds_toArray, List.set_cons_zero, List.set_cons_succ])
            refine takeL (i := 13) (v := ?_) rfl (by kernel_rfl) (by kernel_rfl) (by kernel_rfl) (fun _ _ _ h => h) (Or.inl ⟨by rfl, ?_⟩) (unhide HH) ?_
            rotate_left 1
            · intro W hSW; go_simp; all_goals (with_reducible rfl)
            (try simp only [Act.put, List.setIfInBounds_toArray, List.set_cons_zero, List.set_cons_succ])
            refine wpAnyH_done (by kernel_rfl) ?_ _
            refine NoPanic.normal ?_
            have HEQ := hide ((unhide HF5).once (unhide HF6))
            obtain ⟨fo, hfo⟩ : ∃ q, fixOk x zk = q := ⟨_, rfl⟩
            rw [hfo]
            clear hfo
            have hnn : (fo != fo) = false := by cases fo <;> rfl
            go_wp2_with fail
            refine (same_any _ _ G5 G6 A5 A6 C5 C6 out5 out6 w6 ((unhide HR5).below (unhide HK6)) (unhide HR6)).mono ?_
            rintro e9 w7 ⟨rfl, hk7⟩
            have hdd : decide (out5 = out6) = true := decide_eq_true (unhide HEQ)
            rw [hdd]
            have HK7 := hide ((unhide HKA).trans ((((unhide HK5).trans ((unhide HK6).mono (unhide HK5).size)).trans (hk7.mono (Nat.le_trans (unhide HK5).size (unhide HK6).size))).mono (unhide HKA).size))
            clear hdd hk7
            go_wp2_with fail
            go_roundw
            case rel => exact ⟨k + 1, by go_num, by omega, unhide HK7⟩
            case measure => simp [intOf]; omega
          · have hk2 : k = 3 := by omega
            subst hk2
            have HKE := hide ((unhide HK).trans (((unhide HKB).trans ((unhide HKA).mono (unhide HKB).size)).mono (unhide HK).size))
            go_wp2_with fail
            go_roundw
            case rel => exact ⟨i + 1, by go_num, by omega, unhide HKE⟩
            case measure => simp [intOf]; omega
      · have hi2 : i = 2 := by omega
        subst hi2
        have HBE := hide ((unhide HB).trans ((unhide HK).mono (unhide HB).size))
        go_wp2_with fail
        go_ret
        exact ⟨rfl, unhide HBE⟩

end Go.Proofs.Ytdlbkgehgbacmaa
