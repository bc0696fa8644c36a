/-
  The walk of PolyRoots.
-/
import Derived.Test.YtibmfblppjcenabLk
namespace Go.Proofs.Ytibmfblppjcenab
open Go.RowKit

theorem zeroA (w : World) : (zeroValue 25).run Try.prog w = .ok (.agg (Array.replicate 256 (.bool false))) w := by kernel_rfl

theorem irow_some {w : World} {ao : Option Addr} {g : Nat} {zs : List Int} (hr : IRow w ao g zs) {k : Nat} (hk : k < zs.length) : ∃ o, ao = some ⟨g, o, none⟩ := by
  rcases hr with h | ⟨o, h, _⟩
  · rw [h] at hk; simp at hk
  · exact ⟨o, h⟩
theorem irow_cell {w : World} {g o : Nat} {zs : List Int} (hr : IRow w (some ⟨g, o, none⟩) g zs) {k : Nat} (hk : k < zs.length) : w.cell? ⟨g, o + k, none⟩ = some (.int .i64 (zs.getD k 0)) := by
  rcases hr with h | ⟨o', h, hc⟩
  · rw [h] at hk; simp at hk
  · cases h
    exact hc k hk
theorem kp_below {w w' : World} (h : Below w.heap.size w w') : Kp [] w w' := (Kp.refl [] w).ofBelow h

/-- The powers that the first k numbers name. -/
def aL (zs : List Int) (k : Nat) : List Nat := (zs.take k).map X
theorem aL_lt (zs : List Int) (k : Nat) : ∀ x ∈ aL zs k, x < 256 := fun x hx => by
  obtain ⟨z, _, rfl⟩ := List.mem_map.1 hx
  exact X_lt z
theorem aL_succ {zs : List Int} {k : Nat} (h : k < zs.length) : aL zs (k + 1) = aL zs k ++ [X (zs.getD k 0)] := by
  rw [aL, aL, take_snoc zs k h, List.map_append]
  rfl

/-- The product of x and these. -/
def rootF (p : List Nat) (a : Nat) : List Nat := trim (pmul p [a, 1])
def rootP (l : List Nat) : List Nat := l.foldl rootF [1]
theorem rootP_snoc (l : List Nat) (a : Nat) : rootP (l ++ [a]) = trim (pmul (rootP l) [a, 1]) := by rw [rootP, List.foldl_append]; rfl

theorem two_trim (a : Nat) : trim [a, 1] = [a, 1] := trim_self (.inr (by simp))
theorem two_bs {a : Nat} (h : a < 256) : Bs [a, 1] := Bs.cons h (Bs.cons (by omega) Bs.nil)
theorem two_ev {a x : Nat} (hx : x < 256) : ev [a, 1] x = x ^^^ a := by
  have : ev [a, 1] x = gmul (gmul 0 x ^^^ 1) x ^^^ a := rfl
  rw [this, zero_gmul hx, Nat.zero_xor, one_gmul hx]

theorem rootP_len {l : List Nat} (h : ∀ x ∈ l, x < 256) : (rootP l).length = l.length + 1 ∧ trim (rootP l) = rootP l ∧ Bs (rootP l) := by
  have key : ∀ (l : List Nat) (p : List Nat), (∀ x ∈ l, x < 256) → trim p = p → Bs p → 0 < p.length → (l.foldl rootF p).length = p.length + l.length ∧ trim (l.foldl rootF p) = l.foldl rootF p ∧ Bs (l.foldl rootF p) := by
    intro l
    induction l with
    | nil => intro p _ h1 h2 _; exact ⟨rfl, h1, h2⟩
    | cons a l ih =>
      intro p hl h1 h2 h3
      have ha : a < 256 := hl a List.mem_cons_self
      have hlen : (rootF p a).length = p.length + 1 := by
        have := trim_pmul_len h2 (two_bs ha) (m := p.length - 1) (n := 1) (by rw [h1]; omega) (by rw [two_trim]; rfl)
        unfold rootF
        omega
      obtain ⟨k1, k2, k3⟩ := ih (rootF p a) (fun x hx => hl x (List.mem_cons_of_mem _ hx)) (trim_trim _) (Bs.pmul h2).trim (by omega)
      exact ⟨by rw [List.foldl_cons, k1, hlen, List.length_cons]; omega, k2, k3⟩
  have := key l [1] h rfl (Bs.cons (by omega) Bs.nil) (by simp)
  exact ⟨by rw [rootP, this.1]; simp; omega, this.2.1, this.2.2⟩
theorem rootP_bs {l : List Nat} (h : ∀ x ∈ l, x < 256) : Bs (rootP l) := (rootP_len h).2.2

theorem rootP_ev {l : List Nat} (h : ∀ x ∈ l, x < 256) {x : Nat} (hx : x < 256) : ev (rootP l) x = 0 ↔ x ∈ l := by
  have key : ∀ (l : List Nat) (p : List Nat), (∀ x ∈ l, x < 256) → Bs p → (ev (l.foldl rootF p) x = 0 ↔ ev p x = 0 ∨ x ∈ l) := by
    intro l
    induction l with
    | nil => intro p _ _; simp
    | cons a l ih =>
      intro p hl hp
      have ha : a < 256 := hl a List.mem_cons_self
      rw [List.foldl_cons, ih (rootF p a) (fun y hy => hl y (List.mem_cons_of_mem _ hy)) (Bs.pmul hp).trim, rootF, ev_congr hx (cf_trim _), ev_pmul hp (two_bs ha) hx, two_ev hx, List.mem_cons]
      constructor
      · rintro (h | h)
        · by_cases h1 : ev p x = 0
          · exact .inl h1
          · by_cases h2 : x ^^^ a = 0
            · exact .inr (.inl (xor_eq_nought h2))
            · exact absurd h (gmul_ne (ev_lt hp) (xor_lt hx ha) h1 h2)
        · exact .inr (.inr h)
      · rintro (h | h | h)
        · left; rw [h, zero_gmul (xor_lt hx ha)]
        · left; rw [h, Nat.xor_self, gmul_zero]
        · exact .inr h
  have := key l [1] h (Bs.cons (by omega) Bs.nil)
  have e1 : ev [1] x = 1 := by
    have : ev [1] x = gmul 0 x ^^^ 1 := rfl
    rw [this, zero_gmul hx, Nat.zero_xor]
  rw [rootP, this, e1]
  simp

theorem root_rest {p q r : List Nat} {c : Nat} (hc : c < 256) (h : IsDiv p [c, 1] q r) : (r = [] ∧ ev p c = 0) ∨ ∃ v, r = [v] ∧ v ≠ 0 ∧ ev p c = v ∧ v < 256 := by
  have h1 := h.lt
  rw [two_trim] at h1
  have e : ev p c = ev r c := by
    rw [← ev_congr hc h.eq, ev_padd (Bs.pmul h.bq) h.br hc, ev_pmul h.bq (two_bs hc) hc, two_ev hc, Nat.xor_self, gmul_zero, Nat.zero_xor]
  match r, h1 with
  | [], _ => exact .inl ⟨rfl, e⟩
  | [v], _ =>
    have hv : ev [v] c = v := by
      have : ev [v] c = gmul 0 c ^^^ v := rfl
      rw [this, zero_gmul hc, Nat.zero_xor]
    have h0 : v ≠ 0 := by
      intro h0
      have := h.tr
      rw [h0] at this
      simp [trim] at this
    exact .inr ⟨v, rfl, h0, e.trans hv, h.br 0⟩
  | _ :: _ :: _, h => simp at h; omega

/-- The array of what has come, in block b. -/
def InA (w : World) (b : Nat) (l : List Nat) : Prop := ∀ j, j < 256 → w.cell? ⟨b, j, none⟩ = some (.bool (decide (j ∈ l))) ∧ w.frozen? ⟨b, j, none⟩ = false
theorem InA.below {w w' : World} {b : Nat} {l : List Nat} (h : InA w b l) (hk : Below w.heap.size w w') : InA w' b l := fun j hj =>
  ⟨(hk.cell (block_lt_of_cell (h j hj).1)).trans (h j hj).1, (World.frozen?_of_block (a := ⟨b, j, none⟩) (hk.block b (block_lt_of_cell (h j hj).1))).trans (h j hj).2⟩
theorem inA_new (w : World) (t : TypeId) : InA (w.alloc (.cells (Array.replicate 256 (.bool false)) t)) w.heap.size [] := by
  intro j hj
  have h := World.alloc_heap_new w (.cells (Array.replicate 256 (.bool false)) t)
  constructor
  · unfold World.cell?
    dsimp only
    rw [h]
    simp [hj]
  · unfold World.frozen?
    dsimp only
    rw [h]
    simp
theorem InA.step {w : World} {b : Nat} {l : List Nat} (h : InA w b l) (a : Nat) : InA (w.setCell ⟨b, a, none⟩ (.bool true)) b (l ++ [a]) := by
  intro j hj
  refine ⟨?_, by rw [World.frozen?_setCell]; exact (h j hj).2⟩
  by_cases e : j = a
  · subst e
    rw [decide_eq_true (by simp)]
    exact World.cell?_setCell_same' _ _ _ (by rw [(h _ hj).1]; rfl)
  · rw [show decide (j ∈ l ++ [a]) = decide (j ∈ l) from by simp [e]]
    exact (World.cell?_setCell_other w ⟨b, a, none⟩ ⟨b, j, none⟩ _ (fun h' => e (congrArg Addr.off h').symm)).trans (h j hj).1

set_option maxRecDepth 100000 in
set_option maxHeartbeats 16000000 in
theorem roots_walk (ao : Option Addr) (gz len cap : Nat) (zs : List Int) (n : Int) (w : World) (hl : zs.length = len) (hr : IRow w ao gz zs) :
    Calls Try.prog 3 #[.slice ao len cap, .int .i64 n] w fun x w' => x = .returned (.bool true) ∧ Below w.heap.size w w' := by
  have HR := hide hr
  have HL := hide hl
  clear hr hl
  obtain ⟨cc, hcc⟩ : ∃ cc : Nat, n % 256 = (cc : Int) := ⟨(n % 256).toNat, by omega⟩
  have hcl : cc < 256 := by omega
  have hzA := zeroA
  go_enter Try.func3, Try.ntmps3
  go_wp2_with fail
  refine (known_any w).mono ?_
  rintro x w1 ⟨rfl, hk1⟩
  have HK1 := hide hk1
  have hz1 := hk1.size
  clear hk1
  go_wp2_with fail
  clear hzA
  have HIN0 : Hid (InA ((w1.alloc (.cells #[.int .u8 1] 5)).alloc (.cells (Array.replicate 256 (.bool false)) 25)) (w1.heap.size + 1) []) := by
    have h := inA_new (w1.alloc (.cells #[.int .u8 1] 5)) 25
    rw [World.size_alloc] at h
    exact h
  have HB0 : Hid (Blk ((w1.alloc (.cells #[.int .u8 1] 5)).alloc (.cells (Array.replicate 256 (.bool false)) 25)) w1.heap.size [1]) :=
    (show Blk (w1.alloc (.cells #[.int .u8 1] 5)) w1.heap.size [1] from ⟨_, World.alloc_heap_new w1 _, fun j hj => by
      have : j = 0 := by simpa using hj
      subst this; rfl⟩).of (Below.heap_alloc _ _ _ (by simp))
  have HW0 : Hid (Below w.heap.size w ((w1.alloc (.cells #[.int .u8 1] 5)).alloc (.cells (Array.replicate 256 (.bool false)) 25))) := ((unhide HK1).alloc hz1 _).alloc (by simp; omega) _
  obtain ⟨b, hb⟩ : ∃ b, w1.heap.size + 1 = b := ⟨_, rfl⟩
  rw [hb] at HIN0 ⊢
  have hb1 : w1.heap.size < b := by omega
  clear hb
  go_loopw [5, 7] (fun p q wr => ∃ (k g c : Nat), q = .int .i64 k ∧ k ≤ len ∧ k ≤ 12 ∧ p = .slice (some ⟨g, 0, none⟩) (k + 1) c ∧ k + 1 ≤ c ∧ c ≤ maxLen ∧ Blk wr g (rootP (aL zs k)) ∧ w.heap.size ≤ g ∧ g ≠ b ∧ InA wr b (aL zs k) ∧ Below w.heap.size w wr) (fun _ q _ => 12 - (intOf q).toNat)
  case atStart => exact ⟨0, w1.heap.size, 1, rfl, by omega, by omega, rfl, by omega, by unfold maxLen; omega, unhide HB0, hz1, by omega, unhide HIN0, unhide HW0⟩
  case round =>
    obtain ⟨k, g, c, rfl, hk, hk12, rfl, hc1, hc2, hB1, hg, hgb, hIN, hBL1⟩ := hrel
    clear HIN0 HB0 HW0
    have hzr := hBL1.size
    by_cases hlt : k < len
    · have hlt' : (k : Int) < (len : Int) := by omega
      by_cases hlt2 : k < 12
      · have hlt2' : (k : Int) < 12 := by omega
        have hzl : k < zs.length := by rw [unhide HL]; exact hlt
        obtain ⟨o, rfl⟩ := irow_some (unhide HR) hzl
        have HR2 := hide ((unhide HR).keep (kp_below hBL1) (by simp))
        obtain ⟨z, hz⟩ : ∃ z, zs.getD k 0 = z := ⟨_, rfl⟩
        have hcz := irow_cell (unhide HR2) hzl
        rw [hz] at hcz
        obtain ⟨x, hx⟩ : ∃ x, X z = x := ⟨_, rfl⟩
        have hxl : x < 256 := by rw [← hx]; exact X_lt z
        have HX := hide hx
        have hAS : aL zs (k + 1) = aL zs k ++ [x] := by rw [aL_succ hzl, hz, hx]
        have HAS := hide hAS
        have hALb := aL_lt zs k
        have HLP := hide (rootP_len hALb)
        have hlen : (rootP (aL zs k)).length = k + 1 := by rw [(unhide HLP).1, aL, List.length_map, List.length_take, Nat.min_eq_left (by omega)]
        have HLEN := hide hlen
        have HB1 := hide hB1
        have HIN := hide hIN
        have HBL1 := hide hBL1
        have hglt := hB1.lt
        have hblt : b < wr.heap.size := block_lt_of_cell (hIN 0 (by omega)).1
        clear hz hx hAS hlen hB1 hIN hBL1
        go_wp2_with fail
        refine (rexp_any z _).mono ?_
        rintro e w5 ⟨rfl, hw5⟩
        rw [hw5, unhide HX]
        clear hw5 w5 hcz
        obtain ⟨hcx, hfx⟩ := unhide HIN x hxl
        have hxi : (x : Int) < 256 := by omega
        have HIN2 := hide ((unhide HIN).step x)
        have HB2 : Hid (Blk (wr.setCell ⟨b, x, none⟩ (.bool true)) g (rootP (aL zs k))) := (unhide HB1).of (Below.heap_setCell _ _ _ _ hgb)
        have HBL2 : Hid (Below w.heap.size w (wr.setCell ⟨b, x, none⟩ (.bool true))) := (unhide HBL1).setCell (p := ⟨b, x, none⟩) (by simp; omega) _
        have hz2 : (wr.setCell ⟨b, x, none⟩ (.bool true)).heap.size = wr.heap.size := by simp [World.setCell]
        obtain ⟨w2, hw2⟩ : ∃ w2, wr.setCell ⟨b, x, none⟩ (.bool true) = w2 := ⟨_, rfl⟩
        rw [hw2] at HIN2 HB2 HBL2 hz2
        have HV := hide (arg_two w2 hxl)
        rw [hz2] at HV
        have HB5 : Hid (Below w2.heap.size w2 (w2.alloc (.cells #[.int .u8 (x : Int), .int .u8 1] 5))) := (Below.refl _ w2).alloc (Nat.le_refl _) _
        have HAP : Hid (Arg w2 (.slice (some ⟨g, 0, none⟩) (k + 1) c) g (rootP (aL zs k))) := by
          refine ⟨⟨some ⟨g, 0, none⟩, c, by rw [unhide HLEN], by rw [unhide HLEN]; exact hc1, hc2, (fun h => by cases h), ?_⟩, rootP_bs hALb⟩
          have h := (unhide HB2).row (o := 0) (n := (rootP (aL zs k)).length)
          simpa using h
        go_wp2_with fail
        clear hcx hfx hw2
        refine (pmul_any _ _ g wr.heap.size (rootP (aL zs k)) [x, 1] _ ((unhide HAP).below (unhide HB5)) (unhide HV) (by rw [unhide HLEN]; omega) (by simp)).mono ?_
        rintro e w6 ⟨v6, rfl, hF6, hk6⟩
        rw [← rootP_snoc, ← unhide HAS] at hF6
        have hLP2 := rootP_len (aL_lt zs (k + 1))
        have hlen2 : (rootP (aL zs (k + 1))).length = k + 1 + 1 := by rw [hLP2.1, aL, List.length_map, List.length_take, Nat.min_eq_left (by omega)]
        have hsh : ∃ g6 c6, v6 = .slice (some ⟨g6, 0, none⟩) (k + 1 + 1) c6 ∧ k + 1 + 1 ≤ c6 ∧ c6 ≤ maxLen ∧ Blk w6 g6 (rootP (aL zs (k + 1))) ∧ w2.heap.size < g6 := by
          rcases hF6 with ⟨h, _⟩ | ⟨g6, c6, h1, h2, h3, h4, h5⟩
          · rw [h] at hlen2; simp at hlen2
          · rw [hlen2] at h1 h2
            exact ⟨g6, c6, h1, h2, h3, h4, by simp at h5; omega⟩
        obtain ⟨g6, c6, rfl, hc61, hc62, hB6, hg6⟩ := hsh
        have HB6 := hide hB6
        have HW6 : Hid (Below w2.heap.size w2 w6) := (unhide HB5).trans (hk6.mono (unhide HB5).size)
        have HIN6 : Hid (InA w6 b (aL zs (k + 1))) := by rw [unhide HAS]; exact (unhide HIN2).below (unhide HW6)
        have HBL6 : Hid (Below w.heap.size w w6) := (unhide HBL2).trans ((unhide HW6).mono (by omega))
        clear hF6 hk6 hB6 hLP2 hlen2
        go_wp2
        go_roundw
        case rel => exact ⟨k + 1, g6, c6, by go_num, by omega, by omega, rfl, hc61, hc62, unhide HB6, by omega, by omega, unhide HIN6, unhide HBL6⟩
        case measure => simp [intOf]; omega
      · have hk1 : (12 : Int) ≤ (k : Int) := by omega
        have hlt3 : (12 : Int) < (len : Int) := by omega
        have hk13 : ((k : Int) + 1 != 13) = false := by rw [show (k : Int) + 1 = 13 from by omega]; rfl
        obtain ⟨AL, eAL⟩ : ∃ AL, aL zs k = AL := ⟨_, rfl⟩
        rw [eAL] at hIN
        have hALl : AL.length = k := by rw [← eAL, aL, List.length_map, List.length_take, unhide HL]; omega
        have hALb : ∀ x ∈ AL, x < 256 := by rw [← eAL]; exact aL_lt zs k
        obtain ⟨P, eP⟩ : ∃ P, rootP AL = P := ⟨_, rfl⟩
        rw [eAL, eP] at hB1
        have bP : Bs P := by rw [← eP]; exact rootP_bs hALb
        have LP : Hid (P.length = k + 1) := by show _ = _; rw [← eP, (rootP_len hALb).1, hALl]
        have lP : P.length ≤ 13 := by rw [unhide LP]; omega
        have HRT : Hid (∀ x, x < 256 → (ev P x = 0 ↔ x ∈ AL)) := fun x hx => by rw [← eP]; exact rootP_ev hALb hx
        have HB1 := hide hB1
        have HIN := hide hIN
        have HBL1 := hide hBL1
        clear hB1 hIN hBL1 eAL eP
        obtain ⟨wl, hwl⟩ : ∃ wl, wr = wl := ⟨_, rfl⟩
        rw [hwl] at HB1 HIN HBL1
        have HAP0 : Hid (Arg wl (.slice (some ⟨g, 0, none⟩) (k + 1) c) g P) := by
          refine ⟨⟨some ⟨g, 0, none⟩, c, by rw [unhide LP], by rw [unhide LP]; exact hc1, hc2, (fun h => by cases h), ?_⟩, bP⟩
          have h := (unhide HB1).row (o := 0) (n := P.length)
          simpa using h
        go_wp2_with fail
        clear hwl
        go_loopw [9] (fun q wr => ∃ j : Nat, q = .int .i64 j ∧ j ≤ 256 ∧ Below wl.heap.size wl wr) (fun q _ => 256 - (intOf q).toNat)
        case atStart => exact ⟨0, rfl, by omega, Below.refl _ _⟩
        case round =>
          obtain ⟨j, rfl, hj256, hBL⟩ := hrel
          have HBL := hide hBL
          have HAP := hide ((unhide HAP0).below hBL)
          clear hBL
          by_cases hj : j < 256
          · have hj1 : (j : Int) < 256 := by omega
            have hmod : IntKind.u8.wrap (j : Int) = (j : Int) := wraps_u8 _ (by omega) (by omega)
            have HCJ := hide (((unhide HBL).cell (block_lt_of_cell (unhide HIN j hj).1)).trans (unhide HIN j hj).1)
            by_cases hm : j ∈ AL
            · rw [decide_eq_true hm] at HCJ
              have HEV : Hid (ev P j = 0) := (unhide HRT j hj).2 hm
              clear hm
              go_wp2_with fail
              refine wp_region_noPanic ?_
              refine wp_region_held_drew (S := fun W' => Below wr.heap.size wr W') (by kernel_rfl) ((Below.refl _ _).drew) (fun hHeld => ?_)
              have HH := hide hHeld
              clear hHeld
              refine takeL (i := 0) (v := ?_) rfl (by kernel_rfl) (by kernel_rfl) (by kernel_rfl) (fun _ _ _ h => h) (Or.inl ⟨by rfl, ?_⟩) (unhide HH) ?_
              rotate_left 1
              · intro W hSW; go_simp; all_goals (with_reducible rfl)
              (try simp only [Act.put, List.setIfInBounds_toArray, List.set_cons_zero, List.set_cons_succ])
              refine takeL (i := 1) (v := ?_) rfl (by kernel_rfl) (by kernel_rfl) (by kernel_rfl) (fun _ _ _ h => h) (Or.inl ⟨by rfl, ?_⟩) (unhide HH) ?_
              rotate_left 1
              · intro W hSW; go_simp; all_goals (with_reducible rfl)
              (try simp only [Act.put, List.setIfInBounds_toArray, List.set_cons_zero, List.set_cons_succ])
              refine takeL (i := 2) (v := ?_) rfl (by kernel_rfl) (by kernel_rfl) (by kernel_rfl) (fun _ _ _ h => h) (Or.inl ⟨by rfl, ?_⟩) (unhide HH) ?_
              rotate_left 1
              · intro W hSW; go_simp; all_goals (with_reducible rfl)
              (try simp only [Act.put, List.setIfInBounds_toArray, List.set_cons_zero, List.set_cons_succ])
              refine takeL (i := 5) (v := ?_) rfl (by kernel_rfl) (by kernel_rfl) (by kernel_rfl) (fun _ _ _ h => h) (Or.inl ⟨by rfl, ?_⟩) (unhide HH) ?_
              rotate_left 1
              · intro W hSW; go_simp; all_goals (with_reducible rfl)
              (try simp only [Act.put, List.setIfInBounds_toArray, List.set_cons_zero, List.set_cons_succ])
              refine takeL (i := 6) (v := ?_) rfl (by kernel_rfl) (by kernel_rfl) (by kernel_rfl) (fun _ _ _ h => h) (Or.inl ⟨by rfl, ?_⟩) (unhide HH) ?_
              rotate_left 1
              · intro W hSW; go_simp; all_goals (with_reducible rfl)
              (try simp only [Act.put, List.setIfInBounds_toArray, List.set_cons_zero, List.set_cons_succ])
              refine takeL (i := 7) (v := ?_) rfl (by kernel_rfl) (by kernel_rfl) (by kernel_rfl) (fun _ _ _ h => h) (Or.inl ⟨by rfl, ?_⟩) (unhide HH) ?_
              rotate_left 1
              · intro W1 hSW; have hc := (hSW.cell (block_lt_of_cell (unhide HCJ))).trans (unhide HCJ); clear hSW; go_simp; all_goals (with_reducible rfl)
              (try simp only [Act.put, List.setIfInBounds_toArray, List.set_cons_zero, List.set_cons_succ])
              refine wpAnyH_ready (rs := [3]) (by kernel_rfl) (by simp) ?_
              refine consL rfl (fun K hK => ?_) AllReadyH.nil
              go_simp
              refine (eval_any _ _ P j wr.drew ((unhide HAP).below (Below.refl _ _).drew) (by omega) hj).mono ?_
              rintro e w5 ⟨rfl, hk5⟩
              rw [unhide HEV]
              have HK5 : Hid (Below wr.heap.size wr w5) := (Below.refl _ wr).drew.trans hk5
              clear hk5
              go_wp2_with fail
              refine hK.out _ _ (unhide HK5) (fun hHeld => ?_)
              clear hK K HH
              have HH := hide hHeld
              clear hHeld
              (try simp only [Act.put, List.setIfInBounds_toArray, List.set_cons_zero, List.set_cons_succ])
              refine takeL (i := 4) (v := ?_) rfl (by kernel_rfl) (by kernel_rfl) (by kernel_rfl) (fun _ _ _ h => h) (Or.inl ⟨by rfl, ?_⟩) (unhide HH) ?_
              rotate_left 1
              · intro W hSW; go_simp; all_goals (with_reducible rfl)
              (try simp only [Act.put, List.setIfInBounds_toArray, List.set_cons_zero, List.set_cons_succ])
              refine takeL (i := 8) (v := ?_) rfl (by kernel_rfl) (by kernel_rfl) (by kernel_rfl) (fun _ _ _ h => h) (Or.inl ⟨by rfl, ?_⟩) (unhide HH) ?_
              rotate_left 1
              · intro W hSW; go_simp; all_goals (with_reducible rfl)
              (try simp only [Act.put, List.setIfInBounds_toArray, List.set_cons_zero, List.set_cons_succ])
              refine wpAnyH_done (by kernel_rfl) ?_ _
              refine NoPanic.normal ?_
              clear HH
              go_wp2
              go_roundw
              case rel => exact ⟨j + 1, by go_num, by omega, (unhide HBL).trans ((unhide HK5).mono (unhide HBL).size)⟩
              case measure => simp [intOf]; omega
            · rw [decide_eq_false hm] at HCJ
              obtain ⟨y, ey⟩ : ∃ y, ev P j = y := ⟨_, rfl⟩
              have HEV := hide ey
              have hy0 : (((y : Nat) : Int) == 0) = false := by
                rw [beq_eq_false_iff_ne]
                intro h
                exact hm ((unhide HRT j hj).1 (by omega))
              clear hm ey
              go_wp2_with fail
              refine wp_region_noPanic ?_
              refine wp_region_held_drew (S := fun W' => Below wr.heap.size wr W') (by kernel_rfl) ((Below.refl _ _).drew) (fun hHeld => ?_)
              have HH := hide hHeld
              clear hHeld
              refine takeL (i := 0) (v := ?_) rfl (by kernel_rfl) (by kernel_rfl) (by kernel_rfl) (fun _ _ _ h => h) (Or.inl ⟨by rfl, ?_⟩) (unhide HH) ?_
              rotate_left 1
              · intro W hSW; go_simp; all_goals (with_reducible rfl)
              (try simp only [Act.put, List.setIfInBounds_toArray, List.set_cons_zero, List.set_cons_succ])
              refine takeL (i := 1) (v := ?_) rfl (by kernel_rfl) (by kernel_rfl) (by kernel_rfl) (fun _ _ _ h => h) (Or.inl ⟨by rfl, ?_⟩) (unhide HH) ?_
              rotate_left 1
              · intro W hSW; go_simp; all_goals (with_reducible rfl)
              (try simp only [Act.put, List.setIfInBounds_toArray, List.set_cons_zero, List.set_cons_succ])
              refine takeL (i := 2) (v := ?_) rfl (by kernel_rfl) (by kernel_rfl) (by kernel_rfl) (fun _ _ _ h => h) (Or.inl ⟨by rfl, ?_⟩) (unhide HH) ?_
              rotate_left 1
              · intro W hSW; go_simp; all_goals (with_reducible rfl)
              (try simp only [Act.put, List.setIfInBounds_toArray, List.set_cons_zero, List.set_cons_succ])
              refine takeL (i := 5) (v := ?_) rfl (by kernel_rfl) (by kernel_rfl) (by kernel_rfl) (fun _ _ _ h => h) (Or.inl ⟨by rfl, ?_⟩) (unhide HH) ?_
              rotate_left 1
              · intro W hSW; go_simp; all_goals (with_reducible rfl)
              (try simp only [Act.put, List.setIfInBounds_toArray, List.set_cons_zero, List.set_cons_succ])
              refine takeL (i := 6) (v := ?_) rfl (by kernel_rfl) (by kernel_rfl) (by kernel_rfl) (fun _ _ _ h => h) (Or.inl ⟨by rfl, ?_⟩) (unhide HH) ?_
              rotate_left 1
              · intro W hSW; go_simp; all_goals (with_reducible rfl)
              (try simp only [Act.put, List.setIfInBounds_toArray, List.set_cons_zero, List.set_cons_succ])
              refine takeL (i := 7) (v := ?_) rfl (by kernel_rfl) (by kernel_rfl) (by kernel_rfl) (fun _ _ _ h => h) (Or.inl ⟨by rfl, ?_⟩) (unhide HH) ?_
              rotate_left 1
              · intro W1 hSW; have hc := (hSW.cell (block_lt_of_cell (unhide HCJ))).trans (unhide HCJ); clear hSW; go_simp; all_goals (with_reducible rfl)
              (try simp only [Act.put, List.setIfInBounds_toArray, List.set_cons_zero, List.set_cons_succ])
              refine wpAnyH_ready (rs := [3]) (by kernel_rfl) (by simp) ?_
              refine consL rfl (fun K hK => ?_) AllReadyH.nil
              go_simp
              refine (eval_any _ _ P j wr.drew ((unhide HAP).below (Below.refl _ _).drew) (by omega) hj).mono ?_
              rintro e w5 ⟨rfl, hk5⟩
              rw [unhide HEV]
              have HK5 : Hid (Below wr.heap.size wr w5) := (Below.refl _ wr).drew.trans hk5
              clear hk5
              go_wp2_with fail
              refine hK.out _ _ (unhide HK5) (fun hHeld => ?_)
              clear hK K HH
              have HH := hide hHeld
              clear hHeld
              (try simp only [Act.put, List.setIfInBounds_toArray, List.set_cons_zero, List.set_cons_succ])
              refine takeL (i := 4) (v := ?_) rfl (by kernel_rfl) (by kernel_rfl) (by kernel_rfl) (fun _ _ _ h => h) (Or.inl ⟨by rfl, ?_⟩) (unhide HH) ?_
              rotate_left 1
              · intro W hSW; go_simp; all_goals (with_reducible rfl)
              (try simp only [Act.put, List.setIfInBounds_toArray, List.set_cons_zero, List.set_cons_succ])
              refine takeL (i := 8) (v := ?_) rfl (by kernel_rfl) (by kernel_rfl) (by kernel_rfl) (fun _ _ _ h => h) (Or.inl ⟨by rfl, ?_⟩) (unhide HH) ?_
              rotate_left 1
              · intro W hSW; go_simp; all_goals (with_reducible rfl)
              (try simp only [Act.put, List.setIfInBounds_toArray, List.set_cons_zero, List.set_cons_succ])
              refine wpAnyH_done (by kernel_rfl) ?_ _
              refine NoPanic.normal ?_
              clear HH
              go_wp2
              go_roundw
              case rel => exact ⟨j + 1, by go_num, by omega, (unhide HBL).trans ((unhide HK5).mono (unhide HBL).size)⟩
              case measure => simp [intOf]; omega
          · have hj1 : (256 : Int) ≤ (j : Int) := by omega
            have HV := hide (arg_two wr hcl)
            have HB5 : Hid (Below wr.heap.size wr (wr.alloc (.cells #[.int .u8 (cc : Int), .int .u8 1] 5))) := (Below.refl _ wr).alloc (Nat.le_refl _) _
            go_wp2_with fail
            refine (div_any _ _ g wr.heap.size P [cc, 1] _ ((unhide HAP).below (unhide HB5)) (unhide HV) (by omega) (by simp) (by rw [two_trim]; simp)).mono ?_
            rintro e w6 ⟨v1, v2, q, r, rfl, hdiv, hF1, hF2, hk6⟩
            have hrv := root_rest hcl hdiv
            have HW6 : Hid (Below wr.heap.size wr w6) := (unhide HB5).trans (hk6.mono (unhide HB5).size)
            obtain ⟨a1, l1, c1, rfl⟩ := hF1.shape
            have HF2 := hide hF2
            clear hF1 hF2 hk6 hdiv
            rcases hrv with ⟨rfl, hv0⟩ | ⟨v, rfl, hv0, hv1, hvl⟩
            · have hsh : ∃ a2 c2, v2 = .slice a2 0 c2 := by
                rcases unhide HF2 with ⟨_, h⟩ | ⟨g2, c2, h, _⟩
                · exact ⟨_, _, h⟩
                · exact ⟨_, _, h⟩
              obtain ⟨a2, c2, rfl⟩ := hsh
              have HV0 := hide hv0
              clear hv0
              go_wp2_with fail
              refine (eval_any _ _ P cc w6 ((unhide HAP).below (unhide HW6)) (by omega) hcl).mono ?_
              rintro e w7 ⟨rfl, hk7⟩
              rw [unhide HV0]
              have HW7 := hide (((unhide HBL1).trans ((unhide HBL).mono (unhide HBL1).size)).trans (((unhide HW6).trans (hk7.mono (unhide HW6).size)).mono (by have h1 := (unhide HBL1).size; have h2 := (unhide HBL).size; omega)))
              clear hk7
              go_wp2
              go_ret
              exact ⟨rfl, unhide HW7⟩
            · have hsh : ∃ g2 c2, v2 = .slice (some ⟨g2, 0, none⟩) 1 c2 ∧ Blk w6 g2 [v] := by
                rcases unhide HF2 with ⟨h, _⟩ | ⟨g2, c2, h, _, _, h4, _⟩
                · cases h
                · exact ⟨_, _, h, h4⟩
              obtain ⟨g2, c2, rfl, hB2⟩ := hsh
              have HC2 := hide (hB2.cell (j := 0) (by simp))
              have HV1 := hide hv1
              have hv0' : (((v : Nat) : Int) == 0) = false := by rw [beq_eq_false_iff_ne]; omega
              clear hB2 hv1
              go_wp2_with fail
              refine (eval_any _ _ P cc w6 ((unhide HAP).below (unhide HW6)) (by omega) hcl).mono ?_
              rintro e w7 ⟨rfl, hk7⟩
              rw [unhide HV1]
              have hc7 : w7.cell? ⟨g2, 0, none⟩ = some (.int .u8 (v : Int)) := (hk7.cell (block_lt_of_cell (unhide HC2))).trans (unhide HC2)
              have HW7 := hide (((unhide HBL1).trans ((unhide HBL).mono (unhide HBL1).size)).trans (((unhide HW6).trans (hk7.mono (unhide HW6).size)).mono (by have h1 := (unhide HBL1).size; have h2 := (unhide HBL).size; omega)))
              clear hk7
              go_wp2
              go_ret
              exact ⟨rfl, unhide HW7⟩
    · have hlt' : (len : Int) ≤ (k : Int) := by omega
      have hlen12 : (len : Int) ≤ 12 := by omega
      have hkl : k = len := by omega
      subst hkl
      obtain ⟨AL, eAL⟩ : ∃ AL, aL zs k = AL := ⟨_, rfl⟩
      rw [eAL] at hIN
      have hALl : AL.length = k := by rw [← eAL, aL, List.length_map, List.length_take, unhide HL]; omega
      have hALb : ∀ x ∈ AL, x < 256 := by rw [← eAL]; exact aL_lt zs k
      obtain ⟨P, eP⟩ : ∃ P, rootP AL = P := ⟨_, rfl⟩
      rw [eAL, eP] at hB1
      have bP : Bs P := by rw [← eP]; exact rootP_bs hALb
      have LP : Hid (P.length = k + 1) := by show _ = _; rw [← eP, (rootP_len hALb).1, hALl]
      have lP : P.length ≤ 13 := by rw [unhide LP]; omega
      have HRT : Hid (∀ x, x < 256 → (ev P x = 0 ↔ x ∈ AL)) := fun x hx => by rw [← eP]; exact rootP_ev hALb hx
      have HB1 := hide hB1
      have HIN := hide hIN
      have HBL1 := hide hBL1
      clear hB1 hIN hBL1 eAL eP
      obtain ⟨wl, hwl⟩ : ∃ wl, wr = wl := ⟨_, rfl⟩
      rw [hwl] at HB1 HIN HBL1
      have HAP0 : Hid (Arg wl (.slice (some ⟨g, 0, none⟩) (k + 1) c) g P) := by
        refine ⟨⟨some ⟨g, 0, none⟩, c, by rw [unhide LP], by rw [unhide LP]; exact hc1, hc2, (fun h => by cases h), ?_⟩, bP⟩
        have h := (unhide HB1).row (o := 0) (n := P.length)
        simpa using h
      go_wp2_with fail
      clear hwl
      go_loopw [9] (fun q wr => ∃ j : Nat, q = .int .i64 j ∧ j ≤ 256 ∧ Below wl.heap.size wl wr) (fun q _ => 256 - (intOf q).toNat)
      case atStart => exact ⟨0, rfl, by omega, Below.refl _ _⟩
      case round =>
        obtain ⟨j, rfl, hj256, hBL⟩ := hrel
        have HBL := hide hBL
        have HAP := hide ((unhide HAP0).below hBL)
        clear hBL
        by_cases hj : j < 256
        · have hj1 : (j : Int) < 256 := by omega
          have hmod : IntKind.u8.wrap (j : Int) = (j : Int) := wraps_u8 _ (by omega) (by omega)
          have HCJ := hide (((unhide HBL).cell (block_lt_of_cell (unhide HIN j hj).1)).trans (unhide HIN j hj).1)
          by_cases hm : j ∈ AL
          · rw [decide_eq_true hm] at HCJ
            have HEV : Hid (ev P j = 0) := (unhide HRT j hj).2 hm
            clear hm
            go_wp2_with fail
            refine wp_region_noPanic ?_
            refine wp_region_held_drew (S := fun W' => Below wr.heap.size wr W') (by kernel_rfl) ((Below.refl _ _).drew) (fun hHeld => ?_)
            have HH := hide hHeld
            clear hHeld
            refine takeL (i := 0) (v := ?_) rfl (by kernel_rfl) (by kernel_rfl) (by kernel_rfl) (fun _ _ _ h => h) (Or.inl ⟨by rfl, ?_⟩) (unhide HH) ?_
            rotate_left 1
            · intro W hSW; go_simp; all_goals (with_reducible rfl)
            (try simp only [Act.put, List.setIfInBounds_toArray, List.set_cons_zero, List.set_cons_succ])
            refine takeL (i := 1) (v := ?_) rfl (by kernel_rfl) (by kernel_rfl) (by kernel_rfl) (fun _ _ _ h => h) (Or.inl ⟨by rfl, ?_⟩) (unhide HH) ?_
            rotate_left 1
            · intro W hSW; go_simp; all_goals (with_reducible rfl)
            (try simp only [Act.put, List.setIfInBounds_toArray, List.set_cons_zero, List.set_cons_succ])
            refine takeL (i := 2) (v := ?_) rfl (by kernel_rfl) (by kernel_rfl) (by kernel_rfl) (fun _ _ _ h => h) (Or.inl ⟨by rfl, ?_⟩) (unhide HH) ?_
            rotate_left 1
            · intro W hSW; go_simp; all_goals (with_reducible rfl)
            (try simp only [Act.put, List.setIfInBounds_toArray, List.set_cons_zero, List.set_cons_succ])
            refine takeL (i := 5) (v := ?_) rfl (by kernel_rfl) (by kernel_rfl) (by kernel_rfl) (fun _ _ _ h => h) (Or.inl ⟨by rfl, ?_⟩) (unhide HH) ?_
            rotate_left 1
            · intro W hSW; go_simp; all_goals (with_reducible rfl)
            (try simp only [Act.put, List.setIfInBounds_toArray, List.set_cons_zero, List.set_cons_succ])
            refine takeL (i := 6) (v := ?_) rfl (by kernel_rfl) (by kernel_rfl) (by kernel_rfl) (fun _ _ _ h => h) (Or.inl ⟨by rfl, ?_⟩) (unhide HH) ?_
            rotate_left 1
            · intro W hSW; go_simp; all_goals (with_reducible rfl)
            (try simp only [Act.put, List.setIfInBounds_toArray, List.set_cons_zero, List.set_cons_succ])
            refine takeL (i := 7) (v := ?_) rfl (by kernel_rfl) (by kernel_rfl) (by kernel_rfl) (fun _ _ _ h => h) (Or.inl ⟨by rfl, ?_⟩) (unhide HH) ?_
            rotate_left 1
            · intro W1 hSW; have hc := (hSW.cell (block_lt_of_cell (unhide HCJ))).trans (unhide HCJ); clear hSW; go_simp; all_goals (with_reducible rfl)
            (try simp only [Act.put, List.setIfInBounds_toArray, List.set_cons_zero, List.set_cons_succ])
            refine wpAnyH_ready (rs := [3]) (by kernel_rfl) (by simp) ?_
            refine consL rfl (fun K hK => ?_) AllReadyH.nil
            go_simp
            refine (eval_any _ _ P j wr.drew ((unhide HAP).below (Below.refl _ _).drew) (by omega) hj).mono ?_
            rintro e w5 ⟨rfl, hk5⟩
            rw [unhide HEV]
            have HK5 : Hid (Below wr.heap.size wr w5) := (Below.refl _ wr).drew.trans hk5
            clear hk5
            go_wp2_with fail
            refine hK.out _ _ (unhide HK5) (fun hHeld => ?_)
            clear hK K HH
            have HH := hide hHeld
            clear hHeld
            (try simp only [Act.put, List.setIfInBounds_toArray, List.set_cons_zero, List.set_cons_succ])
            refine takeL (i := 4) (v := ?_) rfl (by kernel_rfl) (by kernel_rfl) (by kernel_rfl) (fun _ _ _ h => h) (Or.inl ⟨by rfl, ?_⟩) (unhide HH) ?_
            rotate_left 1
            · intro W hSW; go_simp; all_goals (with_reducible rfl)
            (try simp only [Act.put, List.setIfInBounds_toArray, List.set_cons_zero, List.set_cons_succ])
            refine takeL (i := 8) (v := ?_) rfl (by kernel_rfl) (by kernel_rfl) (by kernel_rfl) (fun _ _ _ h => h) (Or.inl ⟨by rfl, ?_⟩) (unhide HH) ?_
            rotate_left 1
            · intro W hSW; go_simp; all_goals (with_reducible rfl)
            (try simp only [Act.put, List.setIfInBounds_toArray, List.set_cons_zero, List.set_cons_succ])
            refine wpAnyH_done (by kernel_rfl) ?_ _
            refine NoPanic.normal ?_
            clear HH
            go_wp2
            go_roundw
            case rel => exact ⟨j + 1, by go_num, by omega, (unhide HBL).trans ((unhide HK5).mono (unhide HBL).size)⟩
            case measure => simp [intOf]; omega
          · rw [decide_eq_false hm] at HCJ
            obtain ⟨y, ey⟩ : ∃ y, ev P j = y := ⟨_, rfl⟩
            have HEV := hide ey
            have hy0 : (((y : Nat) : Int) == 0) = false := by
              rw [beq_eq_false_iff_ne]
              intro h
              exact hm ((unhide HRT j hj).1 (by omega))
            clear hm ey
            go_wp2_with fail
            refine wp_region_noPanic ?_
            refine wp_region_held_drew (S := fun W' => Below wr.heap.size wr W') (by kernel_rfl) ((Below.refl _ _).drew) (fun hHeld => ?_)
            have HH := hide hHeld
            clear hHeld
            refine takeL (i := 0) (v := ?_) rfl (by kernel_rfl) (by kernel_rfl) (by kernel_rfl) (fun _ _ _ h => h) (Or.inl ⟨by rfl, ?_⟩) (unhide HH) ?_
            rotate_left 1
            · intro W hSW; go_simp; all_goals (with_reducible rfl)
            (try simp only [Act.put, List.setIfInBounds_toArray, List.set_cons_zero, List.set_cons_succ])
            refine takeL (i := 1) (v := ?_) rfl (by kernel_rfl) (by kernel_rfl) (by kernel_rfl) (fun _ _ _ h => h) (Or.inl ⟨by rfl, ?_⟩) (unhide HH) ?_
            rotate_left 1
            · intro W hSW; go_simp; all_goals (with_reducible rfl)
            (try simp only [Act.put, List.setIfInBounds_toArray, List.set_cons_zero, List.set_cons_succ])
            refine takeL (i := 2) (v := ?_) rfl (by kernel_rfl) (by kernel_rfl) (by kernel_rfl) (fun _ _ _ h => h) (Or.inl ⟨by rfl, ?_⟩) (unhide HH) ?_
            rotate_left 1
            · intro W hSW; go_simp; all_goals (with_reducible rfl)
            (try simp only [Act.put, List.setIfInBounds_toArray, List.set_cons_zero, List.set_cons_succ])
            refine takeL (i := 5) (v := ?_) rfl (by kernel_rfl) (by kernel_rfl) (by kernel_rfl) (fun _ _ _ h => h) (Or.inl ⟨by rfl, ?_⟩) (unhide HH) ?_
            rotate_left 1
            · intro W hSW; go_simp; all_goals (with_reducible rfl)
            (try simp only [Act.put, List.setIfInBounds_toArray, List.set_cons_zero, List.set_cons_succ])
            refine takeL (i := 6) (v := ?_) rfl (by kernel_rfl) (by kernel_rfl) (by kernel_rfl) (fun _ _ _ h => h) (Or.inl ⟨by rfl, ?_⟩) (unhide HH) ?_
            rotate_left 1
            · intro W hSW; go_simp; all_goals (with_reducible rfl)
            (try simp only [Act.put, List.setIfInBounds_toArray, List.set_cons_zero, List.set_cons_succ])
            refine takeL (i := 7) (v := ?_) rfl (by kernel_rfl) (by kernel_rfl) (by kernel_rfl) (fun _ _ _ h => h) (Or.inl ⟨by rfl, ?_⟩) (unhide HH) ?_
            rotate_left 1
            · intro W1 hSW; have hc := (hSW.cell (block_lt_of_cell (unhide HCJ))).trans (unhide HCJ); clear hSW; go_simp; all_goals (with_reducible rfl)
            (try simp only [Act.put, List.setIfInBounds_toArray, List.set_cons_zero, List.set_cons_succ])
            refine wpAnyH_ready (rs := [3]) (by kernel_rfl) (by simp) ?_
            refine consL rfl (fun K hK => ?_) AllReadyH.nil
            go_simp
            refine (eval_any _ _ P j wr.drew ((unhide HAP).below (Below.refl _ _).drew) (by omega) hj).mono ?_
            rintro e w5 ⟨rfl, hk5⟩
            rw [unhide HEV]
            have HK5 : Hid (Below wr.heap.size wr w5) := (Below.refl _ wr).drew.trans hk5
            clear hk5
            go_wp2_with fail
            refine hK.out _ _ (unhide HK5) (fun hHeld => ?_)
            clear hK K HH
            have HH := hide hHeld
            clear hHeld
            (try simp only [Act.put, List.setIfInBounds_toArray, List.set_cons_zero, List.set_cons_succ])
            refine takeL (i := 4) (v := ?_) rfl (by kernel_rfl) (by kernel_rfl) (by kernel_rfl) (fun _ _ _ h => h) (Or.inl ⟨by rfl, ?_⟩) (unhide HH) ?_
            rotate_left 1
            · intro W hSW; go_simp; all_goals (with_reducible rfl)
            (try simp only [Act.put, List.setIfInBounds_toArray, List.set_cons_zero, List.set_cons_succ])
            refine takeL (i := 8) (v := ?_) rfl (by kernel_rfl) (by kernel_rfl) (by kernel_rfl) (fun _ _ _ h => h) (Or.inl ⟨by rfl, ?_⟩) (unhide HH) ?_
            rotate_left 1
            · intro W hSW; go_simp; all_goals (with_reducible rfl)
            (try simp only [Act.put, List.setIfInBounds_toArray, List.set_cons_zero, List.set_cons_succ])
            refine wpAnyH_done (by kernel_rfl) ?_ _
            refine NoPanic.normal ?_
            clear HH
            go_wp2
            go_roundw
            case rel => exact ⟨j + 1, by go_num, by omega, (unhide HBL).trans ((unhide HK5).mono (unhide HBL).size)⟩
            case measure => simp [intOf]; omega
        · have hj1 : (256 : Int) ≤ (j : Int) := by omega
          have HV := hide (arg_two wr hcl)
          have HB5 : Hid (Below wr.heap.size wr (wr.alloc (.cells #[.int .u8 (cc : Int), .int .u8 1] 5))) := (Below.refl _ wr).alloc (Nat.le_refl _) _
          go_wp2_with fail
          refine (div_any _ _ g wr.heap.size P [cc, 1] _ ((unhide HAP).below (unhide HB5)) (unhide HV) (by omega) (by simp) (by rw [two_trim]; simp)).mono ?_
          rintro e w6 ⟨v1, v2, q, r, rfl, hdiv, hF1, hF2, hk6⟩
          have hrv := root_rest hcl hdiv
          have HW6 : Hid (Below wr.heap.size wr w6) := (unhide HB5).trans (hk6.mono (unhide HB5).size)
          obtain ⟨a1, l1, c1, rfl⟩ := hF1.shape
          have HF2 := hide hF2
          clear hF1 hF2 hk6 hdiv
          rcases hrv with ⟨rfl, hv0⟩ | ⟨v, rfl, hv0, hv1, hvl⟩
          · have hsh : ∃ a2 c2, v2 = .slice a2 0 c2 := by
              rcases unhide HF2 with ⟨_, h⟩ | ⟨g2, c2, h, _⟩
              · exact ⟨_, _, h⟩
              · exact ⟨_, _, h⟩
            obtain ⟨a2, c2, rfl⟩ := hsh
            have HV0 := hide hv0
            clear hv0
            go_wp2_with fail
            refine (eval_any _ _ P cc w6 ((unhide HAP).below (unhide HW6)) (by omega) hcl).mono ?_
            rintro e w7 ⟨rfl, hk7⟩
            rw [unhide HV0]
            have HW7 := hide (((unhide HBL1).trans ((unhide HBL).mono (unhide HBL1).size)).trans (((unhide HW6).trans (hk7.mono (unhide HW6).size)).mono (by have h1 := (unhide HBL1).size; have h2 := (unhide HBL).size; omega)))
            clear hk7
            go_wp2
            go_ret
            exact ⟨rfl, unhide HW7⟩
          · have hsh : ∃ g2 c2, v2 = .slice (some ⟨g2, 0, none⟩) 1 c2 ∧ Blk w6 g2 [v] := by
              rcases unhide HF2 with ⟨h, _⟩ | ⟨g2, c2, h, _, _, h4, _⟩
              · cases h
              · exact ⟨_, _, h, h4⟩
            obtain ⟨g2, c2, rfl, hB2⟩ := hsh
            have HC2 := hide (hB2.cell (j := 0) (by simp))
            have HV1 := hide hv1
            have hv0' : (((v : Nat) : Int) == 0) = false := by rw [beq_eq_false_iff_ne]; omega
            clear hB2 hv1
            go_wp2_with fail
            refine (eval_any _ _ P cc w6 ((unhide HAP).below (unhide HW6)) (by omega) hcl).mono ?_
            rintro e w7 ⟨rfl, hk7⟩
            rw [unhide HV1]
            have hc7 : w7.cell? ⟨g2, 0, none⟩ = some (.int .u8 (v : Int)) := (hk7.cell (block_lt_of_cell (unhide HC2))).trans (unhide HC2)
            have HW7 := hide (((unhide HBL1).trans ((unhide HBL).mono (unhide HBL1).size)).trans (((unhide HW6).trans (hk7.mono (unhide HW6).size)).mono (by have h1 := (unhide HBL1).size; have h2 := (unhide HBL).size; omega)))
            clear hk7
            go_wp2
            go_ret
            exact ⟨rfl, unhide HW7⟩

end Go.Proofs.Ytibmfblppjcenab
