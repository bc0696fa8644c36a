/-
  The walk of GeomAll.
-/
import Derived.Test.YtnhhemecfcljbaaK9m
import Derived.Test.YtnhhemecfcljbaaK9k
namespace Go.Proofs.Ytnhhemecfcljbaa
open Go.RowKit Go.Shelf

/-- Three geometries, and three rows of places, side by side. -/
structure GSet (w : World) (G S : Nat) (gD gB gP : Nat → Int) (bo : Nat → Option Addr) (bn bc bg : Nat → Nat) (bl : Nat → List (Int × Int)) : Prop where
  g : w.heap[G]? = some (.cells #[.int .i64 (gD 0), .int .i64 (gB 0), .int .i64 (gP 0), .int .i64 (gD 1), .int .i64 (gB 1), .int .i64 (gP 1), .int .i64 (gD 2), .int .i64 (gB 2), .int .i64 (gP 2)] 23 (0, 0))
  s : w.heap[S]? = some (.cells #[.slice (bo 0) (bn 0) (bc 0), .slice (bo 1) (bn 1) (bc 1), .slice (bo 2) (bn 2) (bc 2)] 24 (0, 0))
  p : ∀ i, i < 3 → PArg w (.slice (bo i) (bn i) (bc i)) (bg i) (bl i)
section
variable {w w' : World} {G S : Nat} {gD gB gP : Nat → Int} {bo : Nat → Option Addr} {bn bc bg : Nat → Nat} {bl : Nat → List (Int × Int)}
theorem GSet.below (h : GSet w G S gD gB gP bo bn bc bg bl) (k : Below w.heap.size w w') : GSet w' G S gD gB gP bo bn bc bg bl :=
  ⟨(k.block _ (lt_of_block h.g)).trans h.g, (k.block _ (lt_of_block h.s)).trans h.s, fun i hi => (h.p i hi).below' k⟩
theorem GSet.sl (h : GSet w G S gD gB gP bo bn bc bg bl) {i : Nat} (hi : i < 3) : w.cell? ⟨S, i, none⟩ = some (.slice (bo i) (bn i) (bc i)) := by
  match i, hi with
  | 0, _ => exact cell_blk h.s rfl
  | 1, _ => exact cell_blk h.s rfl
  | 2, _ => exact cell_blk h.s rfl
theorem load_geo9 {B o : Nat} {a b c : Value} (k0 : w.cell? ⟨B, o, none⟩ = some a) (k1 : w.cell? ⟨B, o + 1, none⟩ = some b) (k2 : w.cell? ⟨B, o + 2, none⟩ = some c) : (loadVar 23 ⟨B, o, none⟩).run Try.prog w = .ok (.agg #[a, b, c]) w := by
  have hu := Try.underlying23
  simp [loadVar, isAgg, run_underlying hu, go_sem, k0, k1, k2]
theorem GSet.geo (h : GSet w G S gD gB gP bo bn bc bg bl) {i : Nat} (hi : i < 3) : (loadVar 23 ⟨G, i * 3, none⟩).run Try.prog w = .ok (.agg #[.int .i64 (gD i), .int .i64 (gB i), .int .i64 (gP i)]) w := by
  match i, hi with
  | 0, _ => exact load_geo9 (cell_blk h.g rfl) (cell_blk h.g rfl) (cell_blk h.g rfl)
  | 1, _ => exact load_geo9 (cell_blk h.g rfl) (cell_blk h.g rfl) (cell_blk h.g rfl)
  | 2, _ => exact load_geo9 (cell_blk h.g rfl) (cell_blk h.g rfl) (cell_blk h.g rfl)
end

theorem supG_small (D B P : Int) (bad : List (Int × Int)) : (supG D B P bad).length ≤ 12 ∧ ∀ k, ((supG D B P bad).getD k []).length ≤ 8 := by
  by_cases h : okG D B P
  · rw [supG, if_pos h]
    obtain ⟨⟨h1, h2⟩, ⟨h3, h4⟩, _⟩ := h
    have hn := sn9_le D.toNat B.toNat bad
    refine ⟨by rw [sup9_len]; omega, fun k => ?_⟩
    by_cases hk : k < sn9 D.toNat B.toNat bad
    · rw [sup9_row_len hk]; omega
    · rw [List.getD_eq_getElem?_getD, List.getElem?_eq_none (by rw [sup9_len]; omega)]; simp
  · rw [supG, if_neg h]; simp

set_option maxRecDepth 100000 in
set_option maxHeartbeats 32000000 in
theorem gall_walk (a b c : Int) (bo : Option Addr) (nb cb gb : Nat) (bad : List (Int × Int)) (s : Int) (ao : Option Addr) (n cz gz : Nat) (zs : List Int) (w : World) (hP : PArg w (.slice bo nb cb) gb bad) (hZ : ZArg w (.slice ao n cz) gz zs) :
    Calls Try.prog 3 #[.agg #[.int .i64 a, .int .i64 b, .int .i64 c], .slice bo nb cb, .int .i64 s, .slice ao n cz] w fun x w' => x = .returned (.bool true) ∧ Below w.heap.size w w' := by
  obtain ⟨W, hW, hG, hb⟩ := GeoAt.new w a b c
  have HT := hide hb
  have HG := hide hG
  have HZ := hide (hZ.below hb)
  have HP := hide (hP.below' hb)
  have hnm := (parg_len hP).2
  clear hG hb hZ hP
  go_enter Try.func3, Try.ntmps3
  go_wp2_with fail
  refine (known9_any _).mono ?_
  rintro e w1 ⟨rfl, hk⟩
  have hws := (unhide HT).size
  replace HG := hide ((unhide HG).below hk)
  replace HZ := hide ((unhide HZ).below hk)
  replace HP := hide ((unhide HP).below' hk)
  replace HT := hide ((unhide HT).trans (hk.mono hws))
  have c0 := (unhide HG).c0
  have c1 := (unhide HG).c1
  have c2 := (unhide HG).c2
  clear hk hW
  by_cases h40 : 40 < nb
  · have h40' : (40 : Int) < (nb : Int) := by omega
    go_wp2_with fail
    go_ret
    exact ⟨rfl, unhide HT⟩
  · have h40' : (nb : Int) ≤ 40 := by omega
    clear h40
    go_wp2_with fail
    clear c0 c1 c2
    refine (make_any a b c _).mono ?_
    rintro e w2 ⟨D, B, P, hok, hq, rfl, hk⟩
    clear hq
    replace HG := hide ((unhide HG).below hk)
    replace HZ := hide ((unhide HZ).below hk)
    replace HP := hide ((unhide HP).below' hk)
    replace HT := hide ((unhide HT).trans (hk.mono (unhide HT).size))
    clear hk
    obtain ⟨V, hV, hG, hb⟩ := GeoAt.new w2 D B P
    replace HG := hide ((unhide HG).below hb)
    replace HZ := hide ((unhide HZ).below hb)
    replace HP := hide ((unhide HP).below' hb)
    replace HT := hide ((unhide HT).trans (hb.mono (unhide HT).size))
    have HGH := hide hG
    have c0 := (unhide HG).c0
    have c1 := (unhide HG).c1
    have c2 := (unhide HG).c2
    have d0 := hG.c0
    have d1 := hG.c1
    have d2 := hG.c2
    clear hb hG
    have HOK := hide hok
    obtain ⟨⟨_, o1⟩, ⟨o2, o3⟩, _, _⟩ := hok
    obtain ⟨V2, hV2⟩ : ∃ V2, V.alloc (.cells #[.int .i64 a, .int .i64 b, .int .i64 c, .int .i64 (D : Int), .int .i64 (B : Int), .int .i64 (P : Int), .int .i64 (D : Int), .int .i64 (B : Int), .int .i64 (P : Int)] 23) = V2 := ⟨_, rfl⟩
    have hal : Below V.heap.size V V2 := by rw [← hV2]; exact (Below.refl _ _).alloc (Nat.le_refl _) _
    have hb9 : V2.heap[V.heap.size]? = some (.cells #[.int .i64 a, .int .i64 b, .int .i64 c, .int .i64 (D : Int), .int .i64 (B : Int), .int .i64 (P : Int), .int .i64 (D : Int), .int .i64 (B : Int), .int .i64 (P : Int)] 23 (0, 0)) := by rw [← hV2]; exact World.alloc_heap_new V _
    have HB9 := hide hb9
    have f0 := ((unhide HGH).below hal).c0
    have f1 := ((unhide HGH).below hal).c1
    have f2 := ((unhide HGH).below hal).c2
    replace HGH := hide ((unhide HGH).below hal)
    replace HZ := hide ((unhide HZ).below hal)
    replace HP := hide ((unhide HP).below' hal)
    replace HT := hide ((unhide HT).trans (hal.mono (unhide HT).size))
    clear hal hb9 HG
    go_wp2_with fail
    clear f0 f1 f2 c0 c1 c2 d0 d1 d2 hV2 hV HGH
    refine (spoil_any D B P ao n cz gz zs _ (by omega) (by omega) (by omega) (unhide HZ)).mono ?_
    rintro e w3 ⟨v3, rfl, hO, hk⟩
    replace HB9 := hide ((hk.block _ (lt_of_block (unhide HB9))).trans (unhide HB9))
    replace HP := hide ((unhide HP).below' hk)
    replace HT := hide ((unhide HT).trans (hk.mono (unhide HT).size))
    obtain ⟨b3, hb3⟩ : ∃ b3, spo B zs (min n D) = b3 := ⟨_, rfl⟩
    rw [hb3] at hO
    obtain ⟨g3, hP3⟩ := hO.parg
    obtain ⟨o3, c3, hv3⟩ := hO.shape
    subst hv3
    obtain ⟨n3, hn3⟩ : ∃ n3, b3.length = n3 := ⟨_, rfl⟩
    rw [hn3] at hP3 ⊢
    have hnm3 := (parg_len hP3).2
    have HP3 := hide hP3
    clear hO hk hP3 hb3 hn3 HZ
    obtain ⟨w4, hw4⟩ : ∃ w4, w3.alloc (.cells #[.slice bo nb cb, .slice bo nb cb, .slice o3 n3 c3] 24) = w4 := ⟨_, rfl⟩
    have hal : Below w3.heap.size w3 w4 := by rw [← hw4]; exact (Below.refl _ _).alloc (Nat.le_refl _) _
    have hbs : w4.heap[w3.heap.size]? = some (.cells #[.slice bo nb cb, .slice bo nb cb, .slice o3 n3 c3] 24 (0, 0)) := by rw [← hw4]; exact World.alloc_heap_new w3 _
    have HGS : Hid (GSet w4 V.heap.size w3.heap.size (fun i => if i = 0 then a else D) (fun i => if i = 0 then b else B) (fun i => if i = 0 then c else P) (fun i => if i = 2 then o3 else bo) (fun i => if i = 2 then n3 else nb) (fun i => if i = 2 then c3 else cb) (fun i => if i = 2 then g3 else gb) (fun i => if i = 2 then b3 else bad)) :=
      ⟨(hal.block _ (lt_of_block (unhide HB9))).trans (unhide HB9), hbs, fun i hi => by
        match i, hi with
        | 0, _ => exact (unhide HP).below' hal
        | 1, _ => exact (unhide HP).below' hal
        | 2, _ => exact (unhide HP3).below' hal⟩
    replace HT := hide ((unhide HT).trans (hal.mono (unhide HT).size))
    generalize (fun i : Nat => if i = 0 then a else (D : Int)) = gD at HGS
    generalize (fun i : Nat => if i = 0 then b else (B : Int)) = gB at HGS
    generalize (fun i : Nat => if i = 0 then c else (P : Int)) = gP at HGS
    generalize (fun i : Nat => if i = 2 then o3 else bo) = xo at HGS
    generalize (fun i : Nat => if i = 2 then n3 else nb) = xn at HGS
    generalize (fun i : Nat => if i = 2 then c3 else cb) = xc at HGS
    generalize (fun i : Nat => if i = 2 then g3 else gb) = xg at HGS
    generalize (fun i : Nat => if i = 2 then b3 else bad) = xl at HGS
    clear hal hbs HB9 HP HP3
    go_wp2_with fail
    clear hw4
    have hws4 := (unhide HT).size
    go_loopw [12] (fun q wr => ∃ i : Nat, q = .int .i64 i ∧ i ≤ 3 ∧ Hid (Below w4.heap.size w4 wr)) (fun q _ => 3 - (intOf q).toNat)
    case atStart => exact ⟨0, rfl, by omega, Below.refl _ _⟩
    case round =>
      obtain ⟨i, rfl, hi, HK⟩ := hrel
      obtain ⟨wa, rfl⟩ : ∃ wa, wa = wr := ⟨_, rfl⟩
      replace HT := hide ((unhide HT).trans ((unhide HK).mono hws4))
      by_cases hi3 : i < 3
      · have hi1 : (i : Int) < 3 := by omega
        have HGSA := hide ((unhide HGS).below (unhide HK))
        have HBLa := HK
        obtain ⟨hm12, hrow⟩ := supG_small (gD i) (gB i) (gP i) (xl i)
        obtain ⟨ls, hls⟩ : ∃ ls, supG (gD i) (gB i) (gP i) (xl i) = ls := ⟨_, rfl⟩
        rw [hls] at hm12 hrow
        have HLS := hide hls
        have HROW := hide hrow
        obtain ⟨m, hm⟩ : ∃ m, ls.length = m := ⟨_, rfl⟩
        rw [hm] at hm12
        have HM := hide hm
        clear hls hm hrow HK
        go_wp2_with fail
        replace HT := hide ((unhide HT).drew)
        replace HGSA := hide ((unhide HGSA).below (Below.refl _ _).drew)
        replace HBLa := hide ((unhide HBLa).drew)
        refine wp_region_noPanic ?_
        refine wp_region_held_drew (S := fun W => Below wa.drew.heap.size wa.drew W) (by kernel_rfl) (Below.refl _ _) (fun hHeld => ?_)
        have HH := hide hHeld
        clear hHeld
        generalize wa.drew = w21 at HT HGSA HBLa HH ⊢
        refine takeL (i := 0) (v := ?_) rfl (by kernel_rfl) (by kernel_rfl) (by kernel_rfl) (fun _ _ _ h => h) (Or.inl ⟨by rfl, ?_⟩) (unhide HH) ?_
        rotate_left 1
        · intro W hSW; go_simp; all_goals (with_reducible rfl)
        (try simp only [Act.put, List.setIfInBounds_toArray, List.set_cons_zero, List.set_cons_succ])
        refine takeL (i := 1) (v := ?_) rfl (by kernel_rfl) (by kernel_rfl) (by kernel_rfl) (fun _ _ _ h => h) (Or.inl ⟨by rfl, ?_⟩) (unhide HH) ?_
        rotate_left 1
        · intro W hSW; go_simp; all_goals (with_reducible rfl)
        (try simp only [Act.put, List.setIfInBounds_toArray, List.set_cons_zero, List.set_cons_succ])
        refine takeL (i := 2) (v := ?_) rfl (by kernel_rfl) (by kernel_rfl) (by kernel_rfl) (fun _ _ _ h => h) (Or.inl ⟨by rfl, ?_⟩) (unhide HH) ?_
        rotate_left 1
        · intro W hSW; go_simp; all_goals (with_reducible rfl)
        (try simp only [Act.put, List.setIfInBounds_toArray, List.set_cons_zero, List.set_cons_succ])
        refine takeL (i := 3) (v := .agg #[.int .i64 (gD i), .int .i64 (gB i), .int .i64 (gP i)]) rfl (by kernel_rfl) (by kernel_rfl) (by kernel_rfl) (fun _ _ _ h => h) (Or.inl ⟨by rfl, fun W1 hSW => run_load_agg9 rfl rfl (((unhide HGSA).below hSW).geo hi3)⟩) (unhide HH) ?_
        (try simp only [Act.put, List.setIfInBounds_toArray, List.set_cons_zero, List.set_cons_succ])
        refine takeL (i := 4) (v := ?_) rfl (by kernel_rfl) (by kernel_rfl) (by kernel_rfl) (fun _ _ _ h => h) (Or.inl ⟨by rfl, ?_⟩) (unhide HH) ?_
        rotate_left 1
        · intro W hSW; go_simp; all_goals (with_reducible rfl)
        (try simp only [Act.put, List.setIfInBounds_toArray, List.set_cons_zero, List.set_cons_succ])
        refine takeL (i := 5) (v := ?_) rfl (by kernel_rfl) (by kernel_rfl) (by kernel_rfl) (fun _ _ _ h => h) (Or.inl ⟨by rfl, ?_⟩) (unhide HH) ?_
        rotate_left 1
        · intro W hSW; go_simp; all_goals (with_reducible rfl)
        (try simp only [Act.put, List.setIfInBounds_toArray, List.set_cons_zero, List.set_cons_succ])
        refine takeL (i := 6) (v := ?_) rfl (by kernel_rfl) (by kernel_rfl) (by kernel_rfl) (fun _ _ _ h => h) (Or.inl ⟨by rfl, ?_⟩) (unhide HH) ?_
        rotate_left 1
        · intro W hSW; go_simp; all_goals (with_reducible rfl)
        (try simp only [Act.put, List.setIfInBounds_toArray, List.set_cons_zero, List.set_cons_succ])
        refine takeL (i := 7) (v := ?_) rfl (by kernel_rfl) (by kernel_rfl) (by kernel_rfl) (fun _ _ _ h => h) (Or.inl ⟨by rfl, ?_⟩) (unhide HH) ?_
        rotate_left 1
        · intro W1 hSW; have hcl := ((unhide HGSA).below hSW).sl hi3; clear hSW; go_simp; all_goals (with_reducible rfl)
        (try simp only [Act.put, List.setIfInBounds_toArray, List.set_cons_zero, List.set_cons_succ])
        refine takeL (i := 9) (v := ?_) rfl (by kernel_rfl) (by kernel_rfl) (by kernel_rfl) (fun _ _ _ h => h) (Or.inl ⟨by rfl, ?_⟩) (unhide HH) ?_
        rotate_left 1
        · intro W hSW; go_simp; all_goals (with_reducible rfl)
        (try simp only [Act.put, List.setIfInBounds_toArray, List.set_cons_zero, List.set_cons_succ])
        refine takeL (i := 10) (v := ?_) rfl (by kernel_rfl) (by kernel_rfl) (by kernel_rfl) (fun _ _ _ h => h) (Or.inl ⟨by rfl, ?_⟩) (unhide HH) ?_
        rotate_left 1
        · intro W hSW; go_simp; all_goals (with_reducible rfl)
        (try simp only [Act.put, List.setIfInBounds_toArray, List.set_cons_zero, List.set_cons_succ])
        refine takeL (i := 11) (v := ?_) rfl (by kernel_rfl) (by kernel_rfl) (by kernel_rfl) (fun _ _ _ h => h) (Or.inl ⟨by rfl, ?_⟩) (unhide HH) ?_
        rotate_left 1
        · intro W hSW; go_simp; all_goals (with_reducible rfl)
        (try simp only [Act.put, List.setIfInBounds_toArray, List.set_cons_zero, List.set_cons_succ])
        refine takeL (i := 12) (v := .agg #[.int .i64 (gD i), .int .i64 (gB i), .int .i64 (gP i)]) rfl (by kernel_rfl) (by kernel_rfl) (by kernel_rfl) (fun _ _ _ h => h) (Or.inl ⟨by rfl, fun W1 hSW => run_load_agg9 rfl rfl (((unhide HGSA).below hSW).geo hi3)⟩) (unhide HH) ?_
        (try simp only [Act.put, List.setIfInBounds_toArray, List.set_cons_zero, List.set_cons_succ])
        refine takeL (i := 13) (v := ?_) rfl (by kernel_rfl) (by kernel_rfl) (by kernel_rfl) (fun _ _ _ h => h) (Or.inl ⟨by rfl, ?_⟩) (unhide HH) ?_
        rotate_left 1
        · intro W hSW; go_simp; all_goals (with_reducible rfl)
        (try simp only [Act.put, List.setIfInBounds_toArray, List.set_cons_zero, List.set_cons_succ])
        refine takeL (i := 14) (v := ?_) rfl (by kernel_rfl) (by kernel_rfl) (by kernel_rfl) (fun _ _ _ h => h) (Or.inl ⟨by rfl, ?_⟩) (unhide HH) ?_
        rotate_left 1
        · intro W hSW; go_simp; all_goals (with_reducible rfl)
        (try simp only [Act.put, List.setIfInBounds_toArray, List.set_cons_zero, List.set_cons_succ])
        refine takeL (i := 15) (v := ?_) rfl (by kernel_rfl) (by kernel_rfl) (by kernel_rfl) (fun _ _ _ h => h) (Or.inl ⟨by rfl, ?_⟩) (unhide HH) ?_
        rotate_left 1
        · intro W hSW; go_simp; all_goals (with_reducible rfl)
        (try simp only [Act.put, List.setIfInBounds_toArray, List.set_cons_zero, List.set_cons_succ])
        refine takeL (i := 16) (v := ?_) rfl (by kernel_rfl) (by kernel_rfl) (by kernel_rfl) (fun _ _ _ h => h) (Or.inl ⟨by rfl, ?_⟩) (unhide HH) ?_
        rotate_left 1
        · intro W1 hSW; have hcl := ((unhide HGSA).below hSW).sl hi3; clear hSW; go_simp; all_goals (with_reducible rfl)
        (try simp only [Act.put, List.setIfInBounds_toArray, List.set_cons_zero, List.set_cons_succ])
        refine wpAnyH_ready (rs := [8]) (by kernel_rfl) (by simp) ?_
        refine consL rfl (fun K hK => ?_) AllReadyH.nil
        go_simp
        refine (gsupers_any (gD i) (gB i) (gP i) (xl i) _ _ _ (xg i) _ ((unhide HGSA).p i hi3)).mono ?_
        rintro e w22 ⟨vx, rfl, hO, hk⟩
        replace HGSA := hide ((unhide HGSA).below hk)
        replace HBLa := hide ((unhide HBLa).trans (hk.mono (unhide HBLa).size))
        replace HT := hide ((unhide HT).trans (hk.mono (unhide HT).size))
        rw [unhide HLS] at hO
        obtain ⟨sox, scx, hv⟩ := hO.sl
        subst hv
        rw [unhide HM] at hO ⊢
        have HRx := hide hO
        clear hO
        go_wp2_with fail
        refine hK.out _ _ hk (fun hHeld => ?_)
        clear hK K HH hHeld
        (try simp only [Act.put, List.setIfInBounds_toArray, List.set_cons_zero, List.set_cons_succ])
        refine stronger (S' := fun W => Below w22.heap.size w22 W) (fun W h => hk.trans (h.mono hk.size)) _ _ _ _ ?_
        have HH : Hid (Below w22.heap.size w22 w22) := Below.refl _ _
        clear hk
        refine wpAnyH_ready (rs := [17]) (by kernel_rfl) (by simp) ?_
        refine consL rfl (fun K hK => ?_) AllReadyH.nil
        go_simp
        refine (rsupers_any (gD i) (gB i) (gP i) (xl i) _ _ _ (xg i) _ ((unhide HGSA).p i hi3)).mono ?_
        rintro e w23 ⟨vy, rfl, hO, hk⟩
        replace HGSA := hide ((unhide HGSA).below hk)
        replace HBLa := hide ((unhide HBLa).trans (hk.mono (unhide HBLa).size))
        replace HRx := hide ((unhide HRx).below hk)
        replace HT := hide ((unhide HT).trans (hk.mono (unhide HT).size))
        rw [unhide HLS] at hO
        obtain ⟨soy, scy, hv⟩ := hO.sl
        subst hv
        rw [unhide HM] at hO ⊢
        have HRy := hide hO
        clear hO
        go_wp2_with fail
        refine hK.out _ _ hk (fun hHeld => ?_)
        clear hK K HH hHeld
        (try simp only [Act.put, List.setIfInBounds_toArray, List.set_cons_zero, List.set_cons_succ])
        refine stronger (S' := fun W => Below w23.heap.size w23 W) (fun W h => hk.trans (h.mono hk.size)) _ _ _ _ ?_
        have HH : Hid (Below w23.heap.size w23 w23) := Below.refl _ _
        clear hk
        refine takeL (i := 18) (v := ?_) rfl (by kernel_rfl) (by kernel_rfl) (by kernel_rfl) (fun _ _ _ h => h) (Or.inl ⟨by rfl, ?_⟩) (unhide HH) ?_
        rotate_left 1
        · intro W hSW; go_simp; all_goals (with_reducible rfl)
        (try simp only [Act.put, List.setIfInBounds_toArray, List.set_cons_zero, List.set_cons_succ])
        refine takeL (i := 19) (v := ?_) rfl (by kernel_rfl) (by kernel_rfl) (by kernel_rfl) (fun _ _ _ h => h) (Or.inl ⟨by rfl, ?_⟩) (unhide HH) ?_
        rotate_left 1
        · intro W hSW; go_simp; all_goals (with_reducible rfl)
        (try simp only [Act.put, List.setIfInBounds_toArray, List.set_cons_zero, List.set_cons_succ])
        refine wpAnyH_done (by kernel_rfl) ?_ _
        refine NoPanic.normal ?_
        go_wp2_with fail
        replace HT := hide ((unhide HT).drew)
        replace HGSA := hide ((unhide HGSA).below (Below.refl _ _).drew)
        replace HBLa := hide ((unhide HBLa).drew)
        replace HRx := hide ((unhide HRx).below (Below.refl _ _).drew)
        replace HRy := hide ((unhide HRy).below (Below.refl _ _).drew)
        refine wp_region_noPanic ?_
        refine wp_region_held_drew (S := fun W => Below w23.drew.heap.size w23.drew W) (by kernel_rfl) (Below.refl _ _) (fun hHeld => ?_)
        have HH := hide hHeld
        clear hHeld
        generalize w23.drew = w24 at HT HGSA HBLa HRx HRy HH ⊢
        refine takeL (i := 0) (v := ?_) rfl (by kernel_rfl) (by kernel_rfl) (by kernel_rfl) (fun _ _ _ h => h) (Or.inl ⟨by rfl, ?_⟩) (unhide HH) ?_
        rotate_left 1
        · intro W hSW; go_simp; all_goals (with_reducible rfl)
        (try simp only [Act.put, List.setIfInBounds_toArray, List.set_cons_zero, List.set_cons_succ])
        refine takeL (i := 1) (v := ?_) rfl (by kernel_rfl) (by kernel_rfl) (by kernel_rfl) (fun _ _ _ h => h) (Or.inl ⟨by rfl, ?_⟩) (unhide HH) ?_
        rotate_left 1
        · intro W hSW; go_simp; all_goals (with_reducible rfl)
        (try simp only [Act.put, List.setIfInBounds_toArray, List.set_cons_zero, List.set_cons_succ])
        refine takeL (i := 2) (v := ?_) rfl (by kernel_rfl) (by kernel_rfl) (by kernel_rfl) (fun _ _ _ h => h) (Or.inl ⟨by rfl, ?_⟩) (unhide HH) ?_
        rotate_left 1
        · intro W hSW; go_simp; all_goals (with_reducible rfl)
        (try simp only [Act.put, List.setIfInBounds_toArray, List.set_cons_zero, List.set_cons_succ])
        refine takeL (i := 3) (v := ?_) rfl (by kernel_rfl) (by kernel_rfl) (by kernel_rfl) (fun _ _ _ h => h) (Or.inl ⟨by rfl, ?_⟩) (unhide HH) ?_
        rotate_left 1
        · intro W hSW; go_simp; all_goals (with_reducible rfl)
        (try simp only [Act.put, List.setIfInBounds_toArray, List.set_cons_zero, List.set_cons_succ])
        refine takeL (i := 4) (v := .bool false) rfl (by kernel_rfl) (by kernel_rfl) (by kernel_rfl) (fun _ _ _ h => h) (Or.inl ⟨by rfl, ?_⟩) (unhide HH) ?_
        · intro W hSW; clear hSW; go_simp; all_goals (first | rfl | simp)
        (try simp only [Act.put, List.setIfInBounds_toArray, List.set_cons_zero, List.set_cons_succ])
        refine takeL (i := 5) (v := ?_) rfl (by kernel_rfl) (by kernel_rfl) (by kernel_rfl) (fun _ _ _ h => h) (Or.inl ⟨by rfl, ?_⟩) (unhide HH) ?_
        rotate_left 1
        · intro W hSW; go_simp; all_goals (with_reducible rfl)
        (try simp only [Act.put, List.setIfInBounds_toArray, List.set_cons_zero, List.set_cons_succ])
        refine takeL (i := 6) (v := ?_) rfl (by kernel_rfl) (by kernel_rfl) (by kernel_rfl) (fun _ _ _ h => h) (Or.inl ⟨by rfl, ?_⟩) (unhide HH) ?_
        rotate_left 1
        · intro W hSW; go_simp; all_goals (with_reducible rfl)
        (try simp only [Act.put, List.setIfInBounds_toArray, List.set_cons_zero, List.set_cons_succ])
        refine takeL (i := 7) (v := ?_) rfl (by kernel_rfl) (by kernel_rfl) (by kernel_rfl) (fun _ _ _ h => h) (Or.inl ⟨by rfl, ?_⟩) (unhide HH) ?_
        rotate_left 1
        · intro W hSW; go_simp; all_goals (with_reducible rfl)
        (try simp only [Act.put, List.setIfInBounds_toArray, List.set_cons_zero, List.set_cons_succ])
        refine takeL (i := 8) (v := ?_) rfl (by kernel_rfl) (by kernel_rfl) (by kernel_rfl) (fun _ _ _ h => h) (Or.inl ⟨by rfl, ?_⟩) (unhide HH) ?_
        rotate_left 1
        · intro W hSW; go_simp; all_goals (with_reducible rfl)
        (try simp only [Act.put, List.setIfInBounds_toArray, List.set_cons_zero, List.set_cons_succ])
        refine takeL (i := 9) (v := .agg #[.int .i64 (gD i), .int .i64 (gB i), .int .i64 (gP i)]) rfl (by kernel_rfl) (by kernel_rfl) (by kernel_rfl) (fun _ _ _ h => h) (Or.inl ⟨by rfl, fun W1 hSW => run_load_agg9 rfl rfl (((unhide HGSA).below hSW).geo hi3)⟩) (unhide HH) ?_
        (try simp only [Act.put, List.setIfInBounds_toArray, List.set_cons_zero, List.set_cons_succ])
        refine takeL (i := 11) (v := ?_) rfl (by kernel_rfl) (by kernel_rfl) (by kernel_rfl) (fun _ _ _ h => h) (Or.inl ⟨by rfl, ?_⟩) (unhide HH) ?_
        rotate_left 1
        · intro W hSW; go_simp; all_goals (with_reducible rfl)
        (try simp only [Act.put, List.setIfInBounds_toArray, List.set_cons_zero, List.set_cons_succ])
        refine takeL (i := 12) (v := ?_) rfl (by kernel_rfl) (by kernel_rfl) (by kernel_rfl) (fun _ _ _ h => h) (Or.inl ⟨by rfl, ?_⟩) (unhide HH) ?_
        rotate_left 1
        · intro W hSW; go_simp; all_goals (with_reducible rfl)
        (try simp only [Act.put, List.setIfInBounds_toArray, List.set_cons_zero, List.set_cons_succ])
        refine takeL (i := 13) (v := ?_) rfl (by kernel_rfl) (by kernel_rfl) (by kernel_rfl) (fun _ _ _ h => h) (Or.inl ⟨by rfl, ?_⟩) (unhide HH) ?_
        rotate_left 1
        · intro W hSW; go_simp; all_goals (with_reducible rfl)
        (try simp only [Act.put, List.setIfInBounds_toArray, List.set_cons_zero, List.set_cons_succ])
        refine takeL (i := 14) (v := .agg #[.int .i64 (gD i), .int .i64 (gB i), .int .i64 (gP i)]) rfl (by kernel_rfl) (by kernel_rfl) (by kernel_rfl) (fun _ _ _ h => h) (Or.inl ⟨by rfl, fun W1 hSW => run_load_agg9 rfl rfl (((unhide HGSA).below hSW).geo hi3)⟩) (unhide HH) ?_
        (try simp only [Act.put, List.setIfInBounds_toArray, List.set_cons_zero, List.set_cons_succ])
        refine wpAnyH_ready (rs := [10]) (by kernel_rfl) (by simp) ?_
        refine consL rfl (fun K hK => ?_) AllReadyH.nil
        go_simp
        refine (gcheck_any (gD i) (gB i) (gP i) _).mono ?_
        rintro e w25 ⟨rfl, hk⟩
        replace HGSA := hide ((unhide HGSA).below hk)
        replace HBLa := hide ((unhide HBLa).trans (hk.mono (unhide HBLa).size))
        replace HRx := hide ((unhide HRx).below hk)
        replace HRy := hide ((unhide HRy).below hk)
        replace HT := hide ((unhide HT).trans (hk.mono (unhide HT).size))
        go_wp2_with fail
        refine hK.out _ _ hk (fun hHeld => ?_)
        clear hK K HH hHeld
        (try simp only [Act.put, List.setIfInBounds_toArray, List.set_cons_zero, List.set_cons_succ])
        refine stronger (S' := fun W => Below w25.heap.size w25 W) (fun W h => hk.trans (h.mono hk.size)) _ _ _ _ ?_
        have HH : Hid (Below w25.heap.size w25 w25) := Below.refl _ _
        clear hk
        refine wpAnyH_ready (rs := [15]) (by kernel_rfl) (by simp) ?_
        refine consL rfl (fun K hK => ?_) AllReadyH.nil
        go_simp
        refine (rcheck9_any (gD i) (gB i) (gP i) _).mono ?_
        rintro e w26 ⟨rfl, hk⟩
        replace HGSA := hide ((unhide HGSA).below hk)
        replace HBLa := hide ((unhide HBLa).trans (hk.mono (unhide HBLa).size))
        replace HRx := hide ((unhide HRx).below hk)
        replace HRy := hide ((unhide HRy).below hk)
        replace HT := hide ((unhide HT).trans (hk.mono (unhide HT).size))
        go_wp2_with fail
        refine hK.out _ _ hk (fun hHeld => ?_)
        clear hK K HH hHeld
        (try simp only [Act.put, List.setIfInBounds_toArray, List.set_cons_zero, List.set_cons_succ])
        refine stronger (S' := fun W => Below w26.heap.size w26 W) (fun W h => hk.trans (h.mono hk.size)) _ _ _ _ ?_
        have HH : Hid (Below w26.heap.size w26 w26) := Below.refl _ _
        clear hk
        refine takeL (i := 16) (v := .bool false) rfl (by kernel_rfl) (by kernel_rfl) (by kernel_rfl) (fun _ _ _ h => h) (Or.inl ⟨by rfl, ?_⟩) (unhide HH) ?_
        · intro W hSW; clear hSW; go_simp; all_goals (first | rfl | simp)
        (try simp only [Act.put, List.setIfInBounds_toArray, List.set_cons_zero, List.set_cons_succ])
        refine takeL (i := 17) (v := ?_) rfl (by kernel_rfl) (by kernel_rfl) (by kernel_rfl) (fun _ _ _ h => h) (Or.inl ⟨by rfl, ?_⟩) (unhide HH) ?_
        rotate_left 1
        · intro W hSW; go_simp; all_goals (with_reducible rfl)
        (try simp only [Act.put, List.setIfInBounds_toArray, List.set_cons_zero, List.set_cons_succ])
        refine takeL (i := 18) (v := ?_) rfl (by kernel_rfl) (by kernel_rfl) (by kernel_rfl) (fun _ _ _ h => h) (Or.inl ⟨by rfl, ?_⟩) (unhide HH) ?_
        rotate_left 1
        · intro W hSW; go_simp; all_goals (with_reducible rfl)
        (try simp only [Act.put, List.setIfInBounds_toArray, List.set_cons_zero, List.set_cons_succ])
        refine takeL (i := 19) (v := ?_) rfl (by kernel_rfl) (by kernel_rfl) (by kernel_rfl) (fun _ _ _ h => h) (Or.inl ⟨by rfl, ?_⟩) (unhide HH) ?_
        rotate_left 1
        · intro W hSW; go_simp; all_goals (with_reducible rfl)
        (try simp only [Act.put, List.setIfInBounds_toArray, List.set_cons_zero, List.set_cons_succ])
        refine takeL (i := 20) (v := ?_) rfl (by kernel_rfl) (by kernel_rfl) (by kernel_rfl) (fun _ _ _ h => h) (Or.inl ⟨by rfl, ?_⟩) (unhide HH) ?_
        rotate_left 1
        · intro W hSW; go_simp; all_goals (with_reducible rfl)
        (try simp only [Act.put, List.setIfInBounds_toArray, List.set_cons_zero, List.set_cons_succ])
        refine takeL (i := 21) (v := ?_) rfl (by kernel_rfl) (by kernel_rfl) (by kernel_rfl) (fun _ _ _ h => h) (Or.inl ⟨by rfl, ?_⟩) (unhide HH) ?_
        rotate_left 1
        · intro W hSW; go_simp; all_goals (with_reducible rfl)
        (try simp only [Act.put, List.setIfInBounds_toArray, List.set_cons_zero, List.set_cons_succ])
        refine takeL (i := 22) (v := .agg #[.int .i64 (gD i), .int .i64 (gB i), .int .i64 (gP i)]) rfl (by kernel_rfl) (by kernel_rfl) (by kernel_rfl) (fun _ _ _ h => h) (Or.inl ⟨by rfl, fun W1 hSW => run_load_agg9 rfl rfl (((unhide HGSA).below hSW).geo hi3)⟩) (unhide HH) ?_
        (try simp only [Act.put, List.setIfInBounds_toArray, List.set_cons_zero, List.set_cons_succ])
        refine takeL (i := 24) (v := ?_) rfl (by kernel_rfl) (by kernel_rfl) (by kernel_rfl) (fun _ _ _ h => h) (Or.inl ⟨by rfl, ?_⟩) (unhide HH) ?_
        rotate_left 1
        · intro W hSW; go_simp; all_goals (with_reducible rfl)
        (try simp only [Act.put, List.setIfInBounds_toArray, List.set_cons_zero, List.set_cons_succ])
        refine takeL (i := 25) (v := ?_) rfl (by kernel_rfl) (by kernel_rfl) (by kernel_rfl) (fun _ _ _ h => h) (Or.inl ⟨by rfl, ?_⟩) (unhide HH) ?_
        rotate_left 1
        · intro W hSW; go_simp; all_goals (with_reducible rfl)
        (try simp only [Act.put, List.setIfInBounds_toArray, List.set_cons_zero, List.set_cons_succ])
        refine takeL (i := 26) (v := ?_) rfl (by kernel_rfl) (by kernel_rfl) (by kernel_rfl) (fun _ _ _ h => h) (Or.inl ⟨by rfl, ?_⟩) (unhide HH) ?_
        rotate_left 1
        · intro W hSW; go_simp; all_goals (with_reducible rfl)
        (try simp only [Act.put, List.setIfInBounds_toArray, List.set_cons_zero, List.set_cons_succ])
        refine takeL (i := 27) (v := .agg #[.int .i64 (gD i), .int .i64 (gB i), .int .i64 (gP i)]) rfl (by kernel_rfl) (by kernel_rfl) (by kernel_rfl) (fun _ _ _ h => h) (Or.inl ⟨by rfl, fun W1 hSW => run_load_agg9 rfl rfl (((unhide HGSA).below hSW).geo hi3)⟩) (unhide HH) ?_
        (try simp only [Act.put, List.setIfInBounds_toArray, List.set_cons_zero, List.set_cons_succ])
        refine wpAnyH_ready (rs := [23]) (by kernel_rfl) (by simp) ?_
        refine consL rfl (fun K hK => ?_) AllReadyH.nil
        go_simp
        refine (gslots_any (gD i) (gB i) (gP i) _).mono ?_
        rintro e w27 ⟨rfl, hk⟩
        replace HGSA := hide ((unhide HGSA).below hk)
        replace HBLa := hide ((unhide HBLa).trans (hk.mono (unhide HBLa).size))
        replace HRx := hide ((unhide HRx).below hk)
        replace HRy := hide ((unhide HRy).below hk)
        replace HT := hide ((unhide HT).trans (hk.mono (unhide HT).size))
        go_wp2_with fail
        refine hK.out _ _ hk (fun hHeld => ?_)
        clear hK K HH hHeld
        (try simp only [Act.put, List.setIfInBounds_toArray, List.set_cons_zero, List.set_cons_succ])
        refine stronger (S' := fun W => Below w27.heap.size w27 W) (fun W h => hk.trans (h.mono hk.size)) _ _ _ _ ?_
        have HH : Hid (Below w27.heap.size w27 w27) := Below.refl _ _
        clear hk
        refine wpAnyH_ready (rs := [28]) (by kernel_rfl) (by simp) ?_
        refine consL rfl (fun K hK => ?_) AllReadyH.nil
        go_simp
        refine (rslots_any (gD i) (gB i) (gP i) _).mono ?_
        rintro e w28 ⟨rfl, hk⟩
        replace HGSA := hide ((unhide HGSA).below hk)
        replace HBLa := hide ((unhide HBLa).trans (hk.mono (unhide HBLa).size))
        replace HRx := hide ((unhide HRx).below hk)
        replace HRy := hide ((unhide HRy).below hk)
        replace HT := hide ((unhide HT).trans (hk.mono (unhide HT).size))
        go_wp2_with fail
        refine hK.out _ _ hk (fun hHeld => ?_)
        clear hK K HH hHeld
        (try simp only [Act.put, List.setIfInBounds_toArray, List.set_cons_zero, List.set_cons_succ])
        refine stronger (S' := fun W => Below w28.heap.size w28 W) (fun W h => hk.trans (h.mono hk.size)) _ _ _ _ ?_
        have HH : Hid (Below w28.heap.size w28 w28) := Below.refl _ _
        clear hk
        refine takeL (i := 29) (v := .bool false) rfl (by kernel_rfl) (by kernel_rfl) (by kernel_rfl) (fun _ _ _ h => h) (Or.inl ⟨by rfl, ?_⟩) (unhide HH) ?_
        · intro W hSW; clear hSW; go_simp; all_goals (first | rfl | simp)
        (try simp only [Act.put, List.setIfInBounds_toArray, List.set_cons_zero, List.set_cons_succ])
        refine takeL (i := 30) (v := ?_) rfl (by kernel_rfl) (by kernel_rfl) (by kernel_rfl) (fun _ _ _ h => h) (Or.inl ⟨by rfl, ?_⟩) (unhide HH) ?_
        rotate_left 1
        · intro W hSW; go_simp; all_goals (with_reducible rfl)
        (try simp only [Act.put, List.setIfInBounds_toArray, List.set_cons_zero, List.set_cons_succ])
        refine wpAnyH_done (by kernel_rfl) ?_ _
        refine NoPanic.normal ?_
        go_wp2_with fail
        go_loopw [15] (fun q wr => ∃ k : Nat, q = .int .i64 k ∧ k ≤ m ∧ Hid (Below w28.heap.size w28 wr)) (fun q _ => m - (intOf q).toNat)
        case atStart => exact ⟨0, rfl, by omega, Below.refl _ _⟩
        case round =>
          obtain ⟨k, rfl, hk, HKb⟩ := hrel
          obtain ⟨wb, rfl⟩ : ∃ wb, wb = wr := ⟨_, rfl⟩
          by_cases hlk : k < m
          · have hk1 : (k : Int) < (m : Int) := by omega
            have HXb := hide ((unhide HRx).below (unhide HKb))
            have HYb := hide ((unhide HRy).below (unhide HKb))
            obtain ⟨Gx, hgx⟩ := (unhide HXb).top9 (by rw [unhide HM]; omega)
            subst hgx
            obtain ⟨Gy, hgy⟩ := (unhide HYb).top9 (by rw [unhide HM]; omega)
            subst hgy
            obtain ⟨xa, xc', hcx, hrx⟩ := (unhide HXb).row9 (i := k) (by rw [unhide HM]; exact hlk)
            obtain ⟨ya, yc', hcy, hry⟩ := (unhide HYb).row9 (i := k) (by rw [unhide HM]; exact hlk)
            have hL8 := unhide HROW k
            obtain ⟨r, hr⟩ : ∃ r, ls.getD k [] = r := ⟨_, rfl⟩
            rw [hr] at hcx hrx hcy hry hL8
            obtain ⟨L, hL⟩ : ∃ L, r.length = L := ⟨_, rfl⟩
            rw [hL] at hcx hcy hrx hry hL8
            have HRW := hide hL
            have HCX := hide hcx
            have HCY := hide hcy
            have HIX := hide hrx
            have HIY := hide hry
            clear hrx hry hr hL
            go_wp2_with fail
            go_quiet (fail)
            clear hcx hcy
            go_wp2_with fail
            go_loopw [16] (fun q wr => ∃ d : Nat, q = .int .i64 d ∧ d ≤ L ∧ Hid (Below wb.heap.size wb wr)) (fun q _ => L - (intOf q).toNat)
            case atStart => exact ⟨0, rfl, by omega, below_qN (Below.refl _ _) _⟩
            case round =>
              obtain ⟨d, rfl, hd, HKd⟩ := hrel
              have hcx := ((unhide HKd).cell (block_lt_of_cell (unhide HCX))).trans (unhide HCX)
              by_cases hld : d < L
              · have hd1 : (d : Int) < (L : Int) := by omega
                have hcy := ((unhide HKd).cell (block_lt_of_cell (unhide HCY))).trans (unhide HCY)
                obtain ⟨qx, hqx, hix⟩ := ((unhide HIX).below (unhide HKd)).item9 (d := d) (by rw [unhide HRW]; exact hld)
                subst hqx
                obtain ⟨qy, hqy, hiy⟩ := ((unhide HIY).below (unhide HKd)).item9 (d := d) (by rw [unhide HRW]; exact hld)
                subst hqy
                obtain ⟨x, hx⟩ : ∃ x, cf r d = x := ⟨_, rfl⟩
                rw [hx] at hix hiy
                clear hx
                go_wp2_with fail
                go_quiet (fail)
                go_wp2_with fail
                go_roundw
                case rel => exact ⟨d + 1, by go_num, by omega, below_qN (unhide HKd) _⟩
                case measure => simp [intOf]; omega
              · obtain rfl : d = L := by omega
                go_wp2_with fail
                clear hcx
                go_roundw
                case rel => exact ⟨k + 1, by go_num, by omega, (unhide HKb).trans ((unhide HKd).mono (unhide HKb).size)⟩
                case measure => simp [intOf]; omega
          · obtain rfl : k = m := by omega
            replace HT := hide ((unhide HT).trans ((unhide HKb).mono (unhide HT).size))
            replace HBLa := hide ((unhide HBLa).trans ((unhide HKb).mono (unhide HBLa).size))
            replace HGSA := hide ((unhide HGSA).below (unhide HKb))
            clear HRx HRy HKb
            go_wp2_with fail
            replace HT := hide ((unhide HT).drew)
            replace HGSA := hide ((unhide HGSA).below (Below.refl _ _).drew)
            replace HBLa := hide ((unhide HBLa).drew)
            refine wp_region_noPanic ?_
            refine wp_region_held_drew (S := fun W => Below wb.drew.heap.size wb.drew W) (by kernel_rfl) (Below.refl _ _) (fun hHeld => ?_)
            have HH := hide hHeld
            clear hHeld
            generalize wb.drew = w29 at HT HGSA HBLa HH ⊢
            refine takeL (i := 0) (v := ?_) rfl (by kernel_rfl) (by kernel_rfl) (by kernel_rfl) (fun _ _ _ h => h) (Or.inl ⟨by rfl, ?_⟩) (unhide HH) ?_
            rotate_left 1
            · intro W hSW; go_simp; all_goals (with_reducible rfl)
            (try simp only [Act.put, List.setIfInBounds_toArray, List.set_cons_zero, List.set_cons_succ])
            refine takeL (i := 1) (v := ?_) rfl (by kernel_rfl) (by kernel_rfl) (by kernel_rfl) (fun _ _ _ h => h) (Or.inl ⟨by rfl, ?_⟩) (unhide HH) ?_
            rotate_left 1
            · intro W hSW; go_simp; all_goals (with_reducible rfl)
            (try simp only [Act.put, List.setIfInBounds_toArray, List.set_cons_zero, List.set_cons_succ])
            refine takeL (i := 2) (v := ?_) rfl (by kernel_rfl) (by kernel_rfl) (by kernel_rfl) (fun _ _ _ h => h) (Or.inl ⟨by rfl, ?_⟩) (unhide HH) ?_
            rotate_left 1
            · intro W hSW; go_simp; all_goals (with_reducible rfl)
            (try simp only [Act.put, List.setIfInBounds_toArray, List.set_cons_zero, List.set_cons_succ])
            refine takeL (i := 3) (v := .agg #[.int .i64 (gD i), .int .i64 (gB i), .int .i64 (gP i)]) rfl (by kernel_rfl) (by kernel_rfl) (by kernel_rfl) (fun _ _ _ h => h) (Or.inl ⟨by rfl, fun W1 hSW => run_load_agg9 rfl rfl (((unhide HGSA).below hSW).geo hi3)⟩) (unhide HH) ?_
            (try simp only [Act.put, List.setIfInBounds_toArray, List.set_cons_zero, List.set_cons_succ])
            refine takeL (i := 4) (v := ?_) rfl (by kernel_rfl) (by kernel_rfl) (by kernel_rfl) (fun _ _ _ h => h) (Or.inl ⟨by rfl, ?_⟩) (unhide HH) ?_
            rotate_left 1
            · intro W hSW; go_simp; all_goals (with_reducible rfl)
            (try simp only [Act.put, List.setIfInBounds_toArray, List.set_cons_zero, List.set_cons_succ])
            refine takeL (i := 6) (v := ?_) rfl (by kernel_rfl) (by kernel_rfl) (by kernel_rfl) (fun _ _ _ h => h) (Or.inl ⟨by rfl, ?_⟩) (unhide HH) ?_
            rotate_left 1
            · intro W hSW; go_simp; all_goals (with_reducible rfl)
            (try simp only [Act.put, List.setIfInBounds_toArray, List.set_cons_zero, List.set_cons_succ])
            refine takeL (i := 7) (v := ?_) rfl (by kernel_rfl) (by kernel_rfl) (by kernel_rfl) (fun _ _ _ h => h) (Or.inl ⟨by rfl, ?_⟩) (unhide HH) ?_
            rotate_left 1
            · intro W hSW; go_simp; all_goals (with_reducible rfl)
            (try simp only [Act.put, List.setIfInBounds_toArray, List.set_cons_zero, List.set_cons_succ])
            refine takeL (i := 8) (v := ?_) rfl (by kernel_rfl) (by kernel_rfl) (by kernel_rfl) (fun _ _ _ h => h) (Or.inl ⟨by rfl, ?_⟩) (unhide HH) ?_
            rotate_left 1
            · intro W hSW; go_simp; all_goals (with_reducible rfl)
            (try simp only [Act.put, List.setIfInBounds_toArray, List.set_cons_zero, List.set_cons_succ])
            refine takeL (i := 9) (v := .agg #[.int .i64 (gD i), .int .i64 (gB i), .int .i64 (gP i)]) rfl (by kernel_rfl) (by kernel_rfl) (by kernel_rfl) (fun _ _ _ h => h) (Or.inl ⟨by rfl, fun W1 hSW => run_load_agg9 rfl rfl (((unhide HGSA).below hSW).geo hi3)⟩) (unhide HH) ?_
            (try simp only [Act.put, List.setIfInBounds_toArray, List.set_cons_zero, List.set_cons_succ])
            refine takeL (i := 10) (v := ?_) rfl (by kernel_rfl) (by kernel_rfl) (by kernel_rfl) (fun _ _ _ h => h) (Or.inl ⟨by rfl, ?_⟩) (unhide HH) ?_
            rotate_left 1
            · intro W hSW; go_simp; all_goals (with_reducible rfl)
            (try simp only [Act.put, List.setIfInBounds_toArray, List.set_cons_zero, List.set_cons_succ])
            refine wpAnyH_ready (rs := [5]) (by kernel_rfl) (by simp) ?_
            refine consL rfl (fun K hK => ?_) AllReadyH.nil
            go_simp
            refine (gsectors_any (gD i) (gB i) (gP i) s _).mono ?_
            rintro e w30 ⟨rfl, hk⟩
            replace HGSA := hide ((unhide HGSA).below hk)
            replace HBLa := hide ((unhide HBLa).trans (hk.mono (unhide HBLa).size))
            replace HT := hide ((unhide HT).trans (hk.mono (unhide HT).size))
            go_wp2_with fail
            refine hK.out _ _ hk (fun hHeld => ?_)
            clear hK K HH hHeld
            (try simp only [Act.put, List.setIfInBounds_toArray, List.set_cons_zero, List.set_cons_succ])
            refine stronger (S' := fun W => Below w30.heap.size w30 W) (fun W h => hk.trans (h.mono hk.size)) _ _ _ _ ?_
            have HH : Hid (Below w30.heap.size w30 w30) := Below.refl _ _
            clear hk
            refine wpAnyH_ready (rs := [11]) (by kernel_rfl) (by simp) ?_
            refine consL rfl (fun K hK => ?_) AllReadyH.nil
            go_simp
            refine (rsectors_any (gD i) (gB i) (gP i) s _).mono ?_
            rintro e w31 ⟨rfl, hk⟩
            replace HGSA := hide ((unhide HGSA).below hk)
            replace HBLa := hide ((unhide HBLa).trans (hk.mono (unhide HBLa).size))
            replace HT := hide ((unhide HT).trans (hk.mono (unhide HT).size))
            go_wp2_with fail
            refine hK.out _ _ hk (fun hHeld => ?_)
            clear hK K HH hHeld
            (try simp only [Act.put, List.setIfInBounds_toArray, List.set_cons_zero, List.set_cons_succ])
            refine stronger (S' := fun W => Below w31.heap.size w31 W) (fun W h => hk.trans (h.mono hk.size)) _ _ _ _ ?_
            have HH : Hid (Below w31.heap.size w31 w31) := Below.refl _ _
            clear hk
            refine takeL (i := 12) (v := .bool false) rfl (by kernel_rfl) (by kernel_rfl) (by kernel_rfl) (fun _ _ _ h => h) (Or.inl ⟨by rfl, ?_⟩) (unhide HH) ?_
            · intro W hSW; clear hSW; go_simp; all_goals (first | rfl | simp)
            (try simp only [Act.put, List.setIfInBounds_toArray, List.set_cons_zero, List.set_cons_succ])
            refine takeL (i := 13) (v := ?_) rfl (by kernel_rfl) (by kernel_rfl) (by kernel_rfl) (fun _ _ _ h => h) (Or.inl ⟨by rfl, ?_⟩) (unhide HH) ?_
            rotate_left 1
            · intro W hSW; go_simp; all_goals (with_reducible rfl)
            (try simp only [Act.put, List.setIfInBounds_toArray, List.set_cons_zero, List.set_cons_succ])
            refine takeL (i := 14) (v := ?_) rfl (by kernel_rfl) (by kernel_rfl) (by kernel_rfl) (fun _ _ _ h => h) (Or.inl ⟨by rfl, ?_⟩) (unhide HH) ?_
            rotate_left 1
            · intro W hSW; go_simp; all_goals (with_reducible rfl)
            (try simp only [Act.put, List.setIfInBounds_toArray, List.set_cons_zero, List.set_cons_succ])
            refine takeL (i := 15) (v := ?_) rfl (by kernel_rfl) (by kernel_rfl) (by kernel_rfl) (fun _ _ _ h => h) (Or.inl ⟨by rfl, ?_⟩) (unhide HH) ?_
            rotate_left 1
            · intro W hSW; go_simp; all_goals (with_reducible rfl)
            (try simp only [Act.put, List.setIfInBounds_toArray, List.set_cons_zero, List.set_cons_succ])
            refine takeL (i := 16) (v := ?_) rfl (by kernel_rfl) (by kernel_rfl) (by kernel_rfl) (fun _ _ _ h => h) (Or.inl ⟨by rfl, ?_⟩) (unhide HH) ?_
            rotate_left 1
            · intro W hSW; go_simp; all_goals (with_reducible rfl)
            (try simp only [Act.put, List.setIfInBounds_toArray, List.set_cons_zero, List.set_cons_succ])
            refine takeL (i := 17) (v := .agg #[.int .i64 (gD i), .int .i64 (gB i), .int .i64 (gP i)]) rfl (by kernel_rfl) (by kernel_rfl) (by kernel_rfl) (fun _ _ _ h => h) (Or.inl ⟨by rfl, fun W1 hSW => run_load_agg9 rfl rfl (((unhide HGSA).below hSW).geo hi3)⟩) (unhide HH) ?_
            (try simp only [Act.put, List.setIfInBounds_toArray, List.set_cons_zero, List.set_cons_succ])
            refine takeL (i := 18) (v := ?_) rfl (by kernel_rfl) (by kernel_rfl) (by kernel_rfl) (fun _ _ _ h => h) (Or.inl ⟨by rfl, ?_⟩) (unhide HH) ?_
            rotate_left 1
            · intro W hSW; go_simp; all_goals (with_reducible rfl)
            (try simp only [Act.put, List.setIfInBounds_toArray, List.set_cons_zero, List.set_cons_succ])
            refine takeL (i := 21) (v := ?_) rfl (by kernel_rfl) (by kernel_rfl) (by kernel_rfl) (fun _ _ _ h => h) (Or.inl ⟨by rfl, ?_⟩) (unhide HH) ?_
            rotate_left 1
            · intro W hSW; go_simp; all_goals (with_reducible rfl)
            (try simp only [Act.put, List.setIfInBounds_toArray, List.set_cons_zero, List.set_cons_succ])
            refine takeL (i := 22) (v := ?_) rfl (by kernel_rfl) (by kernel_rfl) (by kernel_rfl) (fun _ _ _ h => h) (Or.inl ⟨by rfl, ?_⟩) (unhide HH) ?_
            rotate_left 1
            · intro W hSW; go_simp; all_goals (with_reducible rfl)
            (try simp only [Act.put, List.setIfInBounds_toArray, List.set_cons_zero, List.set_cons_succ])
            refine takeL (i := 23) (v := ?_) rfl (by kernel_rfl) (by kernel_rfl) (by kernel_rfl) (fun _ _ _ h => h) (Or.inl ⟨by rfl, ?_⟩) (unhide HH) ?_
            rotate_left 1
            · intro W hSW; go_simp; all_goals (with_reducible rfl)
            (try simp only [Act.put, List.setIfInBounds_toArray, List.set_cons_zero, List.set_cons_succ])
            refine takeL (i := 24) (v := .agg #[.int .i64 (gD i), .int .i64 (gB i), .int .i64 (gP i)]) rfl (by kernel_rfl) (by kernel_rfl) (by kernel_rfl) (fun _ _ _ h => h) (Or.inl ⟨by rfl, fun W1 hSW => run_load_agg9 rfl rfl (((unhide HGSA).below hSW).geo hi3)⟩) (unhide HH) ?_
            (try simp only [Act.put, List.setIfInBounds_toArray, List.set_cons_zero, List.set_cons_succ])
            refine takeL (i := 25) (v := ?_) rfl (by kernel_rfl) (by kernel_rfl) (by kernel_rfl) (fun _ _ _ h => h) (Or.inl ⟨by rfl, ?_⟩) (unhide HH) ?_
            rotate_left 1
            · intro W hSW; go_simp; all_goals (with_reducible rfl)
            (try simp only [Act.put, List.setIfInBounds_toArray, List.set_cons_zero, List.set_cons_succ])
            refine wpAnyH_ready (rs := [19]) (by kernel_rfl) (by simp) ?_
            refine consL rfl (fun K hK => ?_) AllReadyH.nil
            go_simp
            refine (within9_any s 14 _ (by omega) (by omega)).mono ?_
            rintro e w32 ⟨rfl, hwk⟩
            have hk : Below w31.heap.size w31 w32 := by rw [hwk]; exact Below.refl _ _
            clear hwk
            replace HGSA := hide ((unhide HGSA).below hk)
            replace HBLa := hide ((unhide HBLa).trans (hk.mono (unhide HBLa).size))
            replace HT := hide ((unhide HT).trans (hk.mono (unhide HT).size))
            go_wp2_with fail
            refine hK.out _ _ hk (fun hHeld => ?_)
            clear hK K HH hHeld
            (try simp only [Act.put, List.setIfInBounds_toArray, List.set_cons_zero, List.set_cons_succ])
            refine stronger (S' := fun W => Below w32.heap.size w32 W) (fun W h => hk.trans (h.mono hk.size)) _ _ _ _ ?_
            have HH : Hid (Below w32.heap.size w32 w32) := Below.refl _ _
            clear hk
            refine wpAnyH_ready (rs := [20]) (by kernel_rfl) (by simp) ?_
            refine consL rfl (fun K hK => ?_) AllReadyH.nil
            go_simp
            refine (gsectors_any (gD i) (gB i) (gP i) (s % 14) _).mono ?_
            rintro e w33 ⟨rfl, hk⟩
            replace HGSA := hide ((unhide HGSA).below hk)
            replace HBLa := hide ((unhide HBLa).trans (hk.mono (unhide HBLa).size))
            replace HT := hide ((unhide HT).trans (hk.mono (unhide HT).size))
            go_wp2_with fail
            refine hK.out _ _ hk (fun hHeld => ?_)
            clear hK K HH hHeld
            (try simp only [Act.put, List.setIfInBounds_toArray, List.set_cons_zero, List.set_cons_succ])
            refine stronger (S' := fun W => Below w33.heap.size w33 W) (fun W h => hk.trans (h.mono hk.size)) _ _ _ _ ?_
            have HH : Hid (Below w33.heap.size w33 w33) := Below.refl _ _
            clear hk
            refine wpAnyH_ready (rs := [26]) (by kernel_rfl) (by simp) ?_
            refine consL rfl (fun K hK => ?_) AllReadyH.nil
            go_simp
            refine (within9_any s 14 _ (by omega) (by omega)).mono ?_
            rintro e w34 ⟨rfl, hwk⟩
            have hk : Below w33.heap.size w33 w34 := by rw [hwk]; exact Below.refl _ _
            clear hwk
            replace HGSA := hide ((unhide HGSA).below hk)
            replace HBLa := hide ((unhide HBLa).trans (hk.mono (unhide HBLa).size))
            replace HT := hide ((unhide HT).trans (hk.mono (unhide HT).size))
            go_wp2_with fail
            refine hK.out _ _ hk (fun hHeld => ?_)
            clear hK K HH hHeld
            (try simp only [Act.put, List.setIfInBounds_toArray, List.set_cons_zero, List.set_cons_succ])
            refine stronger (S' := fun W => Below w34.heap.size w34 W) (fun W h => hk.trans (h.mono hk.size)) _ _ _ _ ?_
            have HH : Hid (Below w34.heap.size w34 w34) := Below.refl _ _
            clear hk
            refine wpAnyH_ready (rs := [27]) (by kernel_rfl) (by simp) ?_
            refine consL rfl (fun K hK => ?_) AllReadyH.nil
            go_simp
            refine (rsectors_any (gD i) (gB i) (gP i) (s % 14) _).mono ?_
            rintro e w35 ⟨rfl, hk⟩
            replace HGSA := hide ((unhide HGSA).below hk)
            replace HBLa := hide ((unhide HBLa).trans (hk.mono (unhide HBLa).size))
            replace HT := hide ((unhide HT).trans (hk.mono (unhide HT).size))
            go_wp2_with fail
            refine hK.out _ _ hk (fun hHeld => ?_)
            clear hK K HH hHeld
            (try simp only [Act.put, List.setIfInBounds_toArray, List.set_cons_zero, List.set_cons_succ])
            refine stronger (S' := fun W => Below w35.heap.size w35 W) (fun W h => hk.trans (h.mono hk.size)) _ _ _ _ ?_
            have HH : Hid (Below w35.heap.size w35 w35) := Below.refl _ _
            clear hk
            refine takeL (i := 28) (v := .bool false) rfl (by kernel_rfl) (by kernel_rfl) (by kernel_rfl) (fun _ _ _ h => h) (Or.inl ⟨by rfl, ?_⟩) (unhide HH) ?_
            · intro W hSW; clear hSW; go_simp; all_goals (first | rfl | simp)
            (try simp only [Act.put, List.setIfInBounds_toArray, List.set_cons_zero, List.set_cons_succ])
            refine takeL (i := 29) (v := ?_) rfl (by kernel_rfl) (by kernel_rfl) (by kernel_rfl) (fun _ _ _ h => h) (Or.inl ⟨by rfl, ?_⟩) (unhide HH) ?_
            rotate_left 1
            · intro W hSW; go_simp; all_goals (with_reducible rfl)
            (try simp only [Act.put, List.setIfInBounds_toArray, List.set_cons_zero, List.set_cons_succ])
            refine wpAnyH_done (by kernel_rfl) ?_ _
            refine NoPanic.normal ?_
            go_wp2_with fail
            go_roundw
            case rel => exact ⟨i + 1, by go_num, by omega, HBLa⟩
            case measure => simp [intOf]; omega
      · obtain rfl : i = 3 := by omega
        go_wp2_with fail
        go_ret
        exact ⟨rfl, unhide HT⟩

end Go.Proofs.Ytnhhemecfcljbaa
