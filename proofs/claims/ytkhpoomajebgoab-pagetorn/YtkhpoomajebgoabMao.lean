/-
  poly.Minimal.
  bch.Generator, bch.Encode, bch.Syndromes.
-/
import Derived.Test.YtkhpoomajebgoabMan
import Derived.Test.YtkhpoomajebgoabMag
namespace Go.Proofs.Ytkhpoomajebgoab
open Go.RowKit Go.Shelf
attribute [local go_sem] Oper.semAt_some

theorem minF_len (l : List Nat) (p : List Nat) : (l.foldl minF p).length ≤ p.length + l.length := by
  induction l generalizing p with
  | nil => simp
  | cons m l ih =>
    have h1 := ih (minF p m)
    have h2 : (minF p m).length ≤ p.length + 1 := trim_short (fun i hi => cf_pmul_ge (by simp; omega))
    simp only [List.foldl_cons, List.length_cons]
    omega
theorem minF_bs (l : List Nat) {p : List Nat} (hp : Bs p) : Bs (l.foldl minF p) := by
  induction l generalizing p with
  | nil => exact hp
  | cons m l ih => exact ih (Bs.trim (Bs.pmul hp))

theorem Fr.shape0 {n : Nat} {w : World} {v : Value} {s : List Nat} (h : Fr n w v s) : ∃ ao l c, v = .slice ao l c := by
  rcases h with ⟨rfl, rfl⟩ | ⟨g, c, rfl, _⟩
  · exact ⟨_, _, _, rfl⟩
  · exact ⟨_, _, _, rfl⟩

/-- What lies elsewhere stays behind a store. -/
theorem Fr.box {n m b : Nat} {w : World} {v u : Value} {s : List Nat} (h : Fr n w v s) (hm : m ≤ n) (hb : ∀ g, n ≤ g → b ≠ g) : Fr m (w.setCell ⟨b, 0, none⟩ u) v s := by
  rcases h with h | ⟨g, c, h1, h2, h3, h4, h5⟩
  · exact .inl h
  · exact .inr ⟨g, c, h1, h2, h3, h4.of (Below.heap_setCell _ _ _ _ (fun e => hb g h5 e.symm)), by omega⟩

theorem two_get {x y : Nat} (j : Nat) (hj : j < [x, y].length) : (#[Value.int .u8 (x : Int), Value.int .u8 (y : Int)] : Array Value)[j]? = some (.int .u8 ((cf [x, y] j : Nat) : Int)) := by
  match j, hj with
  | 0, _ => rfl
  | 1, _ => rfl

theorem arg_two (w : World) {x : Nat} (hx : x < 256) : Arg (w.alloc (.cells #[.int .u8 (x : Int), .int .u8 1] 5)) (.slice (some ⟨w.heap.size, 0, none⟩) 2 2) w.heap.size [x, 1] := by
  refine ⟨⟨_, 2, rfl, by simp, by unfold maxLen; omega, fun h => by simp at h, ?_⟩, Bs.cons hx (Bs.cons (by omega) Bs.nil)⟩
  have hb : Blk (w.alloc (.cells #[.int .u8 (x : Int), .int .u8 1] 5)) w.heap.size [x, 1] := ⟨_, World.alloc_heap_new w _, fun j hj => two_get j hj⟩
  have := hb.row (o := 0) (n := 2)
  simpa using this

theorem own_box {β : Type} (n b : Nat) (f : β → List Nat) : Own (fun (s : β) W => ∃ v, W.cell? ⟨b, 0, none⟩ = some v ∧ W.frozen? ⟨b, 0, none⟩ = false ∧ Fr n W v (f s)) := fun s W W' row hs hg hr => by
  obtain ⟨v, h1, h2, h3⟩ := hs
  refine ⟨v, cell_kept h1 hg hr, (frozen_kept h1 hg hr).trans h2, ?_⟩
  rcases h3 with h | ⟨g, c, k1, k2, k3, k4, k5⟩
  · exact .inl h
  · exact .inr ⟨g, c, k1, k2, k3, own_blk g f s W W' row k4 hg hr, k5⟩

end Go.Proofs.Ytkhpoomajebgoab

namespace Go.Proofs.Ytkhpoomajebgoab
open Go.RowKit Go.Shelf

def genK (k : Nat) : List Nat := ([1, 3, 5, 7].take k).foldl (fun g n => trim (pmul g (minP n))) [1]
theorem genK_bs (k : Nat) : Bs (genK k) := by
  have : ∀ (l : List Nat) (g : List Nat), Bs g → Bs (l.foldl (fun g n => trim (pmul g (minP n))) g) := by
    intro l
    induction l with
    | nil => intro g h; exact h
    | cons n l ih => intro g h; exact ih _ (Bs.pmul h).trim
  exact this _ _ (Bs.cons (by omega) Bs.nil)
theorem minP_bs (n : Nat) : Bs (minP n) := minF_bs _ (Bs.cons (by omega) Bs.nil)
theorem orb_len (n : Nat) : (orb n).length ≤ 8 := by
  have : ∀ k m, (orbF k n m).length ≤ k := by
    intro k
    induction k with
    | zero => intro m; simp [orbF]
    | succ k ih =>
      intro m
      rw [orbF, List.length_cons]
      split
      · simp
      · have := ih (2 * m % 255); omega
  exact this 8 n
theorem minP_len (n : Nat) : (minP n).length ≤ 9 := by
  have := minF_len (orb n) [1]
  have h2 := orb_len n
  unfold minP
  simp at this
  omega
theorem genK_len (k : Nat) : (genK k).length ≤ 100 := by
  have : ∀ (l : List Nat) (g : List Nat), (l.foldl (fun g n => trim (pmul g (minP n))) g).length ≤ g.length + 9 * l.length := by
    intro l
    induction l with
    | nil => intro g; simp
    | cons n l ih =>
      intro g
      have h1 := ih (trim (pmul g (minP n)))
      have h2 : (trim (pmul g (minP n))).length ≤ g.length + (minP n).length := trim_short (fun i hi => cf_pmul_ge (by omega))
      have h3 := minP_len n
      simp only [List.foldl_cons, List.length_cons]
      omega
  have h := this ([1, 3, 5, 7].take k) [1]
  have h2 : ([1, 3, 5, 7].take k).length ≤ 4 := by simp; omega
  unfold genK
  simp only [List.length_cons, List.length_nil] at h
  omega
theorem genK_next {k : Nat} (hk : k < 4) : trim (pmul (genK k) (minP (2 * k + 1))) = genK (k + 1) := by
  match k, hk with
  | 0, _ => simp [genK]
  | 1, _ => simp [genK]
  | 2, _ => simp [genK]
  | 3, _ => simp [genK]

theorem one_fr (w : World) : Fr w.heap.size (w.alloc (.cells #[.int .u8 1] 5)) (.slice (some ⟨w.heap.size, 0, none⟩) 1 1) [1] :=
  .inr ⟨w.heap.size, 1, rfl, by simp, by unfold maxLen; omega, ⟨_, World.alloc_heap_new w _, fun j hj => by
    have : j = 0 := by simpa using hj
    subst this
    rfl⟩, Nat.le_refl _⟩

/-- The codeword that Encode makes. -/
def encF (d : List Nat) : List Nat := by4 (restF (List.replicate 4 0 ++ d)) ++ d
theorem encF_is {d : List Nat} (hd : Bs d) (hl : d.length = 24) : IsEnc d (encF d) := enc_rest hd hl
theorem encF_len {d : List Nat} (hl : d.length = 24) : (encF d).length = 28 := by simp [encF, by4, hl]
theorem encF_bs {d : List Nat} (hd : Bs d) : Bs (encF d) := fun i => by
  unfold encF
  rw [cf_append]
  split
  · exact by4_bs _ _
  · exact hd _
theorem z4_bs {d : List Nat} (hd : Bs d) : Bs (List.replicate 4 0 ++ d) := fun i => by
  rw [cf_append]
  split
  · rw [cf_replicate]; omega
  · exact hd _

set_option maxRecDepth 100000 in
set_option maxHeartbeats 2000000 in
theorem encode_not (v : Value) (g : Nat) (d : List Nat) (w : World) (hA : Arg w v g d) (hl : d.length ≠ 24) : Calls Try.prog 29 #[v] w fun e w' => e = .returned (.slice none 0 0) ∧ w' = w := by
  obtain ⟨⟨ao, c, rfl, hc1, hc2, hnil, hr⟩, hbs⟩ := hA
  have h24 : ((d.length : Int) != 24) = true := by rw [bne_iff_ne]; omega
  clear hr hnil
  go_enter Try.func29, Try.ntmps29
  go_wp2
  go_ret
  exact ⟨rfl, rfl⟩

set_option maxRecDepth 100000 in
set_option maxHeartbeats 4000000 in
theorem encode_any (v : Value) (g : Nat) (d : List Nat) (w : World) (hA : Arg w v g d) (hl : d.length = 24) :
    Calls Try.prog 29 #[v] w fun e w' => ∃ v', e = .returned v' ∧ Fr w.heap.size w' v' (encF d) ∧ Below w.heap.size w w' := by
  obtain ⟨⟨ao, c, rfl, hc1, hc2, hnil, hr⟩, hbs⟩ := hA
  rw [hl]
  have HL := hide hl
  have HR := hide hr
  have HN := hide (fun h => (⟨Nat.le_of_lt_succ (by have := hnil h; omega), hnil h⟩ : d.length ≤ 0 ∧ c = 0))
  have hmk : ∀ w : World, (Instr.makeSlice 22 (.int .i64 4) (.int .i64 4)).run Try.prog w = .ok (.slice (some ⟨w.heap.size, 0, none⟩) 4 4) (w.alloc (.cells (List.replicate 4 (Value.int .u8 0)).toArray 5)) := run_zeros 4 (by omega)
  obtain ⟨i0, hi0, hz0, hz1, hz2⟩ := info_parts infoE
  have HI := hide hi0
  have HO := hide (made_owns 4 (by omega) w)
  have HK1 : Hid (Kp [] w (w.alloc (.cells (List.replicate 4 (Value.int .u8 0)).toArray 5))) := (Kp.refl [] w).alloc _
  clear hr hnil hi0
  obtain ⟨z4, hz4⟩ : ∃ z4, (List.replicate 4 (Value.int .u8 0)).toArray = z4 := ⟨_, rfl⟩
  rw [hz4] at HO HK1
  simp only [hz4] at hmk
  clear hz4
  go_enter Try.func29, Try.ntmps29
  go_wp2_with (at_builtin; refine wpList_append_row _ rfl _ _ 22 rfl w.heap.size 5 i0 Try.underlying22 (unhide HI) hz0 hz1 hz2 (.slice (some ⟨w.heap.size, 0, none⟩) 4 4) 4 _ rfl (unhide HO) ao g 24 c (ints d) rfl (by rw [ints_len]; exact unhide HL) ((unhide HR).keep (unhide HK1) (by simp)) (fun h => by have h0 := unhide HN h; have := unhide HL; omega) (by omega) (by simp) ?_)
  intro v' w1 ho hg _
  have hF := (owns_fr (s := List.replicate 4 0 ++ d) (by rw [show (ints (List.replicate 4 0 ++ d)).map (Value.int .u8) = (ints (List.replicate 4 0)).map (Value.int .u8) ++ (ints d).map (Value.int .u8) from by simp only [ints, List.map_append]]; exact ho)).2
  obtain ⟨q, cq, rfl, hq1, hq2, hB, hq3⟩ := hF.blk (by simp)
  have hlq : (List.replicate 4 0 ++ d).length = 28 := by rw [List.length_append, List.length_replicate, unhide HL]
  rw [hlq] at hq1 ⊢
  have HB := hide hB
  have HK2 := hide ((unhide HK1).grown hg (fun k e => by cases e; exact .inr (Nat.le_refl _)))
  clear ho hg hF hB hmk HK1 HO
  go_wp2_with fail
  refine (rest_any _ q (List.replicate 4 0 ++ d) _ (by have h := (unhide HB).arg (z4_bs hbs) (c := cq) (by omega) hq2; rw [hlq] at h; exact h) (by omega)).mono ?_
  rintro e w2 ⟨rfl, hk2⟩
  have HE : Hid (encF d = by4 (restF (List.replicate 4 0 ++ d)) ++ d) := rfl
  have hr := rest_lt (List.replicate 4 0 ++ d)
  obtain ⟨r, hrr⟩ : ∃ r, restF (List.replicate 4 0 ++ d) = r := ⟨_, rfl⟩
  rw [hrr] at hr HE ⊢
  clear hrr
  have HB2 := hide ((unhide HB).below hk2 (unhide HB).lt)
  have HK3 := hide ((unhide HK2).ofBelow hk2)
  clear hk2 HB HK2
  go_wp2_with fail
  go_loopw [14] (fun p wr => ∃ (i : Nat) (s : List Nat), p = .int .i64 i ∧ i ≤ 4 ∧ s.length = 28 ∧ (∀ j, cf s j = if j < i then cf (by4 r) j else cf (List.replicate 4 0 ++ d) j) ∧ Blk wr q s ∧ Kp [] w wr) (fun p _ => 4 - (intOf p).toNat)
  case atStart => exact ⟨0, _, rfl, by omega, hlq, fun j => rfl, unhide HB2, unhide HK3⟩
  case round =>
    obtain ⟨i, s, rfl, hi, hsl, hsc, hB, hK⟩ := hrel
    have HSC := hide hsc
    have HB := hide hB
    have HK := hide hK
    clear hsc hB hK
    by_cases hlt : i < 4
    · have hi1 : (i : Int) < 4 := by omega
      have hc := (unhide HB).cell (j := i) (by omega)
      have hf := (unhide HB).free (j := i)
      go_wp2_with fail
      go_roundw
      case rel =>
        rw [show (r : Int) / 2 ^ (8 * i) % 256 = ((r / 2 ^ (8 * i) % 256 : Nat) : Int) from by simp]
        refine ⟨i + 1, s.set i (r / 2 ^ (8 * i) % 256), by go_num, by omega, by simp [hsl], ?_, (unhide HB).set i _ (by omega), (unhide HK).setCell _ _ (.inr hq3)⟩
        intro j
        rw [cf_set _ _ _ _ (by omega), unhide HSC]
        by_cases e : j = i
        · rw [if_pos e, if_pos (by omega), e, cf_by4 r hlt]
        · rw [if_neg e]
          by_cases e2 : j < i
          · rw [if_pos e2, if_pos (by omega)]
          · rw [if_neg e2, if_neg (by omega)]
      case measure => simp [intOf]; omega
    · have hi2 : i = 4 := by omega
      subst hi2
      have hs2 : s = encF d := by
        rw [unhide HE]
        refine eq_of_cf (by rw [hsl, List.length_append, unhide HL]; rfl) (fun j => ?_)
        rw [unhide HSC, cf_append, cf_append, List.length_replicate, show (by4 r).length = 4 from rfl]
        by_cases e : j < 4
        · rw [if_pos e, if_pos e]
        · rw [if_neg e, if_neg e, if_neg e]
      subst hs2
      go_wp2
      go_ret
      exact ⟨_, rfl, .inr ⟨q, cq, by rw [encF_len (unhide HL)]; rfl, by rw [encF_len (unhide HL)]; exact hq1, hq2, unhide HB, hq3⟩, (unhide HK).below⟩

/-- The syndromes' row. -/
def synF (w : List Nat) : List Nat := valL (restF w)
theorem synF_eq (w : List Nat) : synF w = [syn w 1, syn w 2, syn w 3, syn w 4, syn w 5, syn w 6, syn w 7, syn w 8] := by
  have h := (rest_facts w).2
  unfold synF valL vals
  rw [h 1 (by omega) (by omega), h 2 (by omega) (by omega), h 3 (by omega) (by omega), h 4 (by omega) (by omega), h 5 (by omega) (by omega), h 6 (by omega) (by omega), h 7 (by omega) (by omega), h 8 (by omega) (by omega)]
theorem synF_bs (w : List Nat) : Bs (synF w) := valL_bs _

end Go.Proofs.Ytkhpoomajebgoab
