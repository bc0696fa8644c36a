/-
  nand: Erase.
-/
import Derived.Test.YtnondiaefpdlpaaV7p
namespace Go.Proofs.Ytnondiaefpdlpaa
open Go.RowKit Go.Shelf
attribute [local go_sem] Oper.semAt_some

theorem mix_again {a b : List Nat} (m : List Nat) (hl : a.length = b.length) (ha : Bs a) (hb : Bs b) : mixL (mixL a b m) b m = mixL a b m := by
  by_cases hm : m = []
  · subst hm
    rw [mix_none hl, mix_none hl]
  · have h1 : (mixL a b m).length = b.length := by rw [mixL_len hl]; exact hl
    refine bytes_ext (by rw [mixL_len h1]) (mixL_bs m (mixL_bs m ha hb) hb) (mixL_bs m ha hb) (fun k hk => ?_)
    rw [mixL_len h1] at hk
    have hk2 : k < 8 * a.length := by rw [mixL_len hl] at hk; exact hk
    rw [mixL, if_pos h1, bf_mixF hk hm]
    rw [mixL, if_pos hl, bf_mixF hk2 hm]
    by_cases e : bt (mAt m (k / 8)) (k % 8) = 1
    · rw [if_pos e, if_pos e]
    · rw [if_neg e, if_neg e]
theorem mixed_again {s : Nd} {a b : List Nat} (hl : a.length = b.length) (ha : Bs a) (hb : Bs b) : s.mixed (s.mixed a b) b = s.mixed a b := by
  unfold Nd.mixed
  split
  · exact mix_again _ hl ha hb
  · rfl

theorem NA.cells {m : Nat} {w w' : World} {L : La} {s : Nd} (h : NA m w L s) (hk : ∀ (k : Nat) (cur : Array Value) (t : TypeId), w.heap[k]? = some (.cells cur t (0, 0)) → w'.heap[k]? = some (.cells cur t (0, 0))) : NA m w' L s := by
  have hfr : ∀ {v : Value} {l : List Nat}, Fr 0 w v l → Fr 0 w' v l := fun {v l} h => by
    rcases h with h | ⟨g, c, h1, h2, h3, ⟨cur, h4, h4'⟩, h5⟩
    · exact .inl h
    · exact .inr ⟨g, c, h1, h2, h3, ⟨cur, hk _ _ _ h4, h4'⟩, h5⟩
  exact
  { ok := h.ok
    top := hk _ _ _ h.top
    dies := by obtain ⟨cur, h1, h2⟩ := h.dies; exact ⟨cur, hk _ _ _ h1, h2⟩
    blocks := fun d hd => by obtain ⟨cur, h1, h2⟩ := h.blocks d hd; exact ⟨cur, hk _ _ _ h1, h2⟩
    pages := fun d b hd hb => by obtain ⟨cur, h1, h2⟩ := h.pages d b hd hb; exact ⟨cur, hk _ _ _ h1, h2⟩
    hold := fun d b p hd hb hp => hfr (h.hold d b p hd hb hp)
    nois := fun d b p hd hb hp => by
      obtain ⟨l, h1, h2, h3⟩ := h.nois d b p hd hb hp
      refine ⟨l, ⟨h1.1, ?_⟩, h2, h3⟩
      rcases h1.2 with h' | ⟨g, cap, cur, g1, g2, g3, g4⟩
      · exact .inl h'
      · exact .inr ⟨g, cap, cur, g1, g2, hk _ _ _ g3, g4⟩
    msk := by obtain ⟨t, h1, h2, h3, h4⟩ := h.msk; exact ⟨t, hfr h1, h2, h3, h4⟩
    inj1 := h.inj1
    inj2 := h.inj2
    low0 := h.low0
    low1 := h.low1
    low2 := h.low2
    low3 := h.low3 }
theorem Kn.put {m D : Nat} {w A : World} (h : Kn m w A) (o : Obj) (hD : w.heap.size ≤ D) (hm : m ≤ D) : Kn m w (A.putObj D o) :=
  ⟨h.os, h.tape, h.output, by have := h.size; simpa using this, fun k hk => (World.putObj_heap_other (by omega)).trans (h.low k hk), fun k o' h1 h2 => (World.putObj_heap_other (by have := lt_of_block h1; omega)).trans (h.oth k o' h1 h2)⟩
theorem Fr.same {w w' : World} {v : Value} {l : List Nat} {q : Nat} {c : Array Value} {t : TypeId} (h : Fr 0 w v l) (ht : t ≠ 5) (hq : w.heap[q]? = some (.cells c t (0, 0))) (hs : ∀ k : Nat, k < w.heap.size → k ≠ q → w'.heap[k]? = w.heap[k]?) : Fr 0 w' v l := by
  rcases h with h | ⟨g, c', h1, h2, h3, h4, h5⟩
  · exact .inl h
  · refine .inr ⟨g, c', h1, h2, h3, h4.of (hs g h4.lt (fun e => ?_)), h5⟩
    obtain ⟨cur, h6, _⟩ := h4
    subst e
    rw [hq] at h6
    cases h6
    exact ht rfl
theorem heap_set_ne {A : World} {q j k : Nat} (v : Value) (h : k ≠ q) : (A.setCell ⟨q, j, none⟩ v).heap[k]? = A.heap[k]? := Below.heap_setCell _ _ _ _ h

/-- A block is erased. -/
def Nd.erased (s : Nd) (d b : Nat) : Nd := { s.begun with held := fun d' b' p' => if d' = d ∧ b' = b then s.mixed (s.held d b p') ones60 else s.held d' b' p', era := put2 s.era d b (inc (s.era d b)), next := if s.left = 1 then s.next else put2 s.next d b 0 }

set_option maxRecDepth 100000 in
set_option maxHeartbeats 8000000 in
theorem erase_dead {m : Nat} {w : World} {L : La} {s : Nd} (h : NA m w L s) (hd : s.dead = true) (d b : Int) :
    Calls Try.prog 21 #[.pointer (some ⟨L.n, 0, none⟩), .int .i64 d, .int .i64 b] w fun e w' => e = .returned (.int .i64 8) ∧ w' = w := by
  have hc := h.cDead
  rw [hd] at hc
  clear h hd
  go_enter Try.func21, Try.ntmps21
  go_wp2_with fail
  go_ret
  exact ⟨rfl, rfl⟩

set_option maxRecDepth 100000 in
set_option maxHeartbeats 8000000 in
theorem erase_bad {m : Nat} {w : World} {L : La} {s : Nd} (h : NA m w L s) (hd : s.dead = false) (d b : Int) (hbad : ¬ (s.There d b ∧ s.bad d.toNat b.toNat = false)) :
    Calls Try.prog 21 #[.pointer (some ⟨L.n, 0, none⟩), .int .i64 d, .int .i64 b] w fun e w' => e = .returned (.int .i64 1) ∧ NA m w' L { s with wrong := inc s.wrong } ∧ Kn m w w' := by
  have hc := h.cDead
  rw [hd] at hc
  have HN := hide h
  have HS := hide (snd_none (L := L) hbad)
  clear h hd hbad
  go_enter Try.func21, Try.ntmps21
  go_wp2_with fail
  refine (sound_any (unhide HN) _ _).mono ?_
  rintro e w ⟨rfl, rfl⟩
  rw [unhide HS]
  clear hc
  go_wp2_with fail
  refine (refuse_any (unhide HN)).mono ?_
  rintro e w1 ⟨rfl, hN1, hK1⟩
  have HN1 := hide hN1
  have HK1 := hide hK1
  clear hN1 hK1
  go_wp2_with fail
  go_ret
  exact ⟨rfl, unhide HN1, unhide HK1⟩

/-- The pages of a block are others. -/
theorem NA.newP {m : Nat} {w w' : World} {L : La} {s : Nd} (h : NA m w L s) {d b : Nat} (hd : d < s.D) (hb : b < s.B) (hv : Nat → Value) (held : Nat → Nat → Nat → List Nat)
    (hP : PgAt w' (L.ps d b) s.P hv (fun p => L.nv d b p)) (hsame : ∀ k : Nat, k < w.heap.size → k ≠ L.ps d b → w'.heap[k]? = w.heap[k]?) (hx : w'.os = w.os ∧ w'.tape = w.tape ∧ w'.output = w.output) (hz : w.heap.size ≤ w'.heap.size)
    (hlen : ∀ d b p, (held d b p).length = 60) (hbs : ∀ d b p, Bs (held d b p))
    (hnew : ∀ p, p < s.P → Fr 0 w' (hv p) (held d b p)) (hold : ∀ d' b' p, ¬ (d' = d ∧ b' = b) → held d' b' p = s.held d' b' p) :
    NA m w' { L with hv := fun d' b' p' => if d' = d ∧ b' = b then hv p' else L.hv d' b' p' } { s with held } ∧ Kn m w w' := by
  obtain ⟨cp, hcp, _⟩ := h.pages d b hd hb
  have hk : Kn m w w' := ⟨hx.1, hx.2.1, hx.2.2, hz, fun k hk => hsame k (by have := h.n_lt; omega) (by have := h.low3 d b hd hb; omega), fun k o h1 h2 => (hsame k (lt_of_block h1) (fun e => by
    subst e
    rw [hcp] at h1
    cases h1
    simp [mineO, mine] at h2)).trans h1⟩
  have hne : ∀ {k : Nat} {cur : Array Value} {t : TypeId}, t ≠ 95 → w.heap[k]? = some (.cells cur t (0, 0)) → w'.heap[k]? = some (.cells cur t (0, 0)) := fun {k cur t} ht h1 => (hsame k (lt_of_block h1) (fun e => by
    subst e
    rw [hcp] at h1
    cases h1
    exact ht rfl)).trans h1
  refine ⟨?_, hk⟩
  exact
  { ok := ⟨h.ok.d, h.ok.b, h.ok.p, hlen, hbs, h.ok.nx, h.ok.lf⟩
    top := hne (by decide) h.top
    dies := by obtain ⟨cur, h1, h2⟩ := h.dies; exact ⟨cur, hne (by decide) h1, h2⟩
    blocks := fun d hd => by obtain ⟨cur, h1, h2⟩ := h.blocks d hd; exact ⟨cur, hne (by decide) h1, h2⟩
    pages := fun d' b' hd' hb' => by
      by_cases e : d' = d ∧ b' = b
      · obtain ⟨rfl, rfl⟩ := e
        obtain ⟨cur, h1, h2⟩ := hP
        refine ⟨cur, h1, fun p' hp' j hj => ?_⟩
        match j, hj with
        | 0, _ => simp only [pagC, and_self, if_true]; exact (h2 p' hp').1
        | 1, _ => exact (h2 p' hp').2
      · obtain ⟨cur, h1, h2⟩ := h.pages d' b' hd' hb'
        refine ⟨cur, (hsame _ (lt_of_block h1) (fun e2 => e (h.inj2 _ _ _ _ hd' hb' hd hb e2))).trans h1, fun p' hp' j hj => ?_⟩
        match j, hj with
        | 0, _ => simp only [pagC, if_neg e]; exact h2 p' hp' 0 (by omega)
        | 1, _ => exact h2 p' hp' 1 (by omega)
    hold := fun d' b' p' hd' hb' hp' => by
      by_cases e : d' = d ∧ b' = b
      · simp only [if_pos e]; obtain ⟨rfl, rfl⟩ := e; exact hnew p' hp'
      · simp only [if_neg e, hold d' b' p' e]; exact (h.hold d' b' p' hd' hb' hp').kn hk
    nois := fun d b p hd hb hp => by obtain ⟨l, h1, h2, h3⟩ := h.nois d b p hd hb hp; exact ⟨l, h1.kn hk, h2, h3⟩
    msk := by obtain ⟨t, h1, h2, h3, h4⟩ := h.msk; exact ⟨t, h1.kn hk, h2, h3, h4⟩
    inj1 := h.inj1
    inj2 := h.inj2
    low0 := h.low0
    low1 := h.low1
    low2 := h.low2
    low3 := h.low3 }

set_option maxRecDepth 100000 in
set_option maxHeartbeats 8000000 in
theorem erase_good {m : Nat} {w : World} {L : La} {s : Nd} (h : NA m w L s) (hdd : s.dead = false) {d b : Nat} (hd : d < s.D) (hb : b < s.B) (hbad : s.bad d b = false) :
    Calls Try.prog 21 #[.pointer (some ⟨L.n, 0, none⟩), .int .i64 (d : Int), .int .i64 (b : Int)] w fun e w' => e = .returned (.int .i64 s.err) ∧ (∃ L', L'.n = L.n ∧ NA m w' L' (s.erased d b)) ∧ Kn m w w' := by
  have hc := h.cDead
  rw [hdd] at hc
  have HN := hide h
  have HS := hide (snd_good (L := L) hd hb hbad)
  have hP8 := h.ok.p
  clear h hdd hbad
  refine (callsIn_wide (n := 3)).1 ?_
  refine callsIn_of_wp_marks Try.func21 rfl trivial ?_ rfl
  simp only [Try.ntmps21, List.size_toArray, List.length_cons, List.length_nil, Nat.reduceAdd, Nat.reduceSub, Array.replicate_succ, Array.replicate_zero, List.push_toArray, List.append_toArray, List.nil_append, List.cons_append]
  gi_wp2
  refine ⟨trivial, (callsIn_wide.2 (sound_any (unhide HN) _ _)).mono ?_⟩
  rintro e w ⟨rfl, rfl⟩
  rw [unhide HS]
  clear hc
  gi_wp2
  refine ⟨trivial, (callsIn_wide.2 (work_any (unhide HN))).mono ?_⟩
  rintro e w1 ⟨dv, t, rfl, hN1, hK1, hF1, hbt, htl, hmx⟩
  obtain ⟨dvo, dvn, dvc, rfl⟩ : ∃ o n c, dv = .slice o n c := by
    obtain ⟨o, c, h⟩ := hF1.shape
    exact ⟨_, _, _, h⟩
  have hal : Below w1.heap.size w1 (w1.alloc (.cells #[.slice dvo dvn dvc] 38)) := (Below.refl _ _).alloc (Nat.le_refl _) _
  have hcd := (cell_new' w1 (.slice dvo dvn dvc) 38).1
  have hza : (w1.alloc (.cells #[.slice dvo dvn dvc] 38)).heap.size = w1.heap.size + 1 := World.size_alloc _ _
  have hm1 := hN1.n_lt
  have hlp1 : L.ps d b < w1.heap.size := by
    obtain ⟨_, g, _⟩ := hN1.pages d b hd hb
    exact lt_of_block g
  have hlb1 : L.bs d < w1.heap.size := by
    obtain ⟨_, g, _⟩ := hN1.blocks d hd
    exact lt_of_block g
  have hzw1 := hK1.size
  have HN2 := hide (hN1.below hal)
  have HK2 := hide (hK1.trans (Kn.of_below hal (Nat.le_of_lt hm1)))
  have HF2 := hide (hF1.below hal (Nat.le_refl _))
  have HBT := hide hbt
  have HMX := hide hmx
  have HCD := hide hcd
  clear hN1 hK1 hF1 hbt hmx hal hcd
  gi_wp2
  generalize w1.alloc (.cells #[.slice dvo dvn dvc] 38) = w2 at HN2 HK2 HF2 HCD hza ⊢
  have hza1 := Nat.le_of_eq hza
  have hza2 := Nat.le_of_eq hza.symm
  clear hza
  have HC1 : Hid (w2.cell? ⟨L.bs d, b * 4 + 1, none⟩ = some (.slice (some ⟨L.ps d b, 0, none⟩) s.P s.P)) := (unhide HN2).bc hd hb (j := 1) (by omega)
  refine ⟨trivial, (callsIn_wide.2 (allP_any _ w2)).mono ?_⟩
  rintro e w3 ⟨rfl, hc3, hz3, hb3⟩
  have hlbs := block_lt_of_cell (unhide HC1)
  dsimp only at hlbs
  have HC3 := hide (below_cell' hb3 (unhide HC1) hlbs)
  have HCD3 := hide (below_cell' hb3 (unhide HCD) (by show w1.heap.size < _; omega))
  have hm2 := (unhide HN2).n_lt
  have HN3 := hide ((unhide HN2).below hb3)
  have HK3 := hide ((unhide HK2).trans (Kn.of_below hb3 (Nat.le_of_lt hm2)))
  have HF3 := hide ((unhide HF2).below hb3 (Nat.le_refl _))
  have hz3a := Nat.le_of_eq hz3
  have hz3b := Nat.le_of_eq hz3.symm
  obtain ⟨he, hq⟩ := allP_x (fun k => k = L.bs d ∨ k = w2.heap.size) w2.heap.size (L.bs d) (b * 4 + 1) (L.ps d b) s.P s.P (by omega) w3 hc3 (unhide HC3) (.inr rfl) (.inl rfl)
  have HE := hide he
  have HQ := hide hq
  have hpg : PgAt w3 (L.ps d b) s.P (fun p => L.hv d b p) (fun p => L.nv d b p) := by
    obtain ⟨cur, g1, g2⟩ := (unhide HN3).pages d b hd hb
    exact ⟨cur, g1, fun p hp => ⟨g2 p hp 0 (by omega), g2 p hp 1 (by omega)⟩⟩
  have HPG := hide hpg
  have hlps := hpg.lt
  have hnbp : L.bs d ≠ L.ps d b := fun e => by
    obtain ⟨c1, g1, _⟩ := (unhide HN3).blocks d hd
    obtain ⟨c2, g2, _⟩ := hpg
    rw [e, g2] at g1
    cases g1
  clear hc3 hz3 hb3 he hq hpg HN2 HK2 HF2 HC1 HCD
  gi_wp2
  refine wpIn_range_y (gf := 67) (lb := #[.pointer (some ⟨w2.heap.size, 0, none⟩)]) rfl (unhide HE) (unhide HQ) (fun k hk => by rcases hk with h | h <;> omega) (fun _ => rfl)
    (fun pre A => ∃ hv : Nat → Value, PgAt A (L.ps d b) s.P hv (fun p => L.nv d b p) ∧ (∀ p, p < s.P → p ∈ pre.map Fin.val → Fr (w3.heap.size + 2 + 0) A (hv p) (s.mixed (s.held d b p) ones60)) ∧ (∀ p, p < s.P → p ∉ pre.map Fin.val → hv p = L.hv d b p) ∧ (∀ k : Nat, k < w3.heap.size → k ≠ L.ps d b → A.heap[k]? = w3.heap[k]?) ∧ (A.os = w3.os ∧ A.tape = w3.tape ∧ A.output = w3.output) ∧ w3.heap.size ≤ A.heap.size)
    (fun s A B h hb => by
      obtain ⟨hv, h1, h2, h3, h4, h5, h6⟩ := h
      have hb' := hb.below (by omega)
      exact ⟨hv, h1.of (hb.block _ h1.lt (by omega)), fun p hp hm => (h2 p hp hm).ka hb (by omega), h3, fun k hk hne => (hb.block k (by omega) (by omega)).trans (h4 k hk hne), ⟨hb.os.trans h5.1, hb.tape.trans h5.2.1, hb.output.trans h5.2.2⟩, Nat.le_trans h6 hb.size⟩)
    ⟨_, unhide HPG, fun p hp h => by simp at h, fun p hp _ => rfl, fun _ _ _ => rfl, ⟨rfl, rfl, rfl⟩, Nat.le_refl _⟩ ?round ?done
  case done =>
    rintro D1 xs A hD hD2 hxs ⟨hv, h1, h2, h3, h4, h5, h6⟩ hK
    have hin : ∀ p, p < s.P → p ∈ xs.map Fin.val := fun p hp => by rw [hxs]; exact List.mem_range.2 hp
    have hNA := (unhide HN3).newP hd hb hv (fun d' b' p' => if d' = d ∧ b' = b then s.mixed (s.held d b p') ones60 else s.held d' b' p') h1 h4 h5 h6
      (fun d' b' p' => by split; exact mixed_len ((unhide HN3).ok.len d b p') ones60_len; exact (unhide HN3).ok.len d' b' p')
      (fun d' b' p' => by split; exact mixed_bs ((unhide HN3).ok.bs d b p') ones60_bs; exact (unhide HN3).ok.bs d' b' p')
      (fun p hp => by rw [if_pos ⟨rfl, rfl⟩]; exact (h2 p hp (hin p hp)).low) (fun d' b' p hne => by rw [if_neg hne]; rfl)
    obtain ⟨hN4, hK4⟩ := hNA
    have hs5 := hN4.setB (d := d) (b := b) (i := 3) hd hb (by omega) (.int .i64 (inc (s.era d b))) s.bad s.next (put2 s.era d b (inc (s.era d b))) (fun d' b' => hN4.ok.nx d' b')
      (fun d' b' j hd' hb' hj => by
        match j, hj with
        | 0, _ => rw [if_neg (fun h => by have := h.2.2; omega)]; rfl
        | 1, _ => rw [if_neg (fun h => by have := h.2.2; omega)]; rfl
        | 2, _ => rw [if_neg (fun h => by have := h.2.2; omega)]; rfl
        | 3, _ =>
          show Value.int .i64 (put2 s.era d b (inc (s.era d b)) d' b') = _
          unfold put2
          by_cases e : d' = d ∧ b' = b
          · rw [if_pos e, if_pos ⟨e.1, e.2, rfl⟩]
          · rw [if_neg e, if_neg (fun h => e ⟨h.1, h.2.1⟩)]; rfl)
    have hce : A.cell? ⟨L.bs d, b * 4 + 3, none⟩ = some (.int .i64 (s.era d b)) := hN4.bc hd hb (j := 3) (by omega)
    have hfe := hN4.bf (d := d) hd (b * 4 + 3)
    have hK5 := (heap_set_ne (A := A) (q := L.bs d) (j := b * 4 + 3) (.int .i64 (inc (s.era d b))) (k := D1) (by omega)).trans hK
    obtain ⟨hN5, hKk5⟩ := hs5
    have HKA := hide ((unhide HK3).trans hK4)
    by_cases hl1 : s.left = 1
    · have herr : s.err = 8 := by rw [Nd.err, if_pos hl1]
      rw [herr]
      have hfin : s.erased d b = { s.begun with held := fun d' b' p' => if d' = d ∧ b' = b then s.mixed (s.held d b p') ones60 else s.held d' b' p', era := put2 s.era d b (inc (s.era d b)), next := s.next } := by unfold Nd.erased; rw [if_pos hl1]
      have HFIN := hide hfin
      have HN5 := hide hN5
      have HK5 := hide ((unhide HKA).trans hKk5)
      have HKD := hide hK5
      clear hN4 hK4 hN5 hKk5 hfin h1 h2 h3 h4 h5 hin hK hK5
      gi_wp2
      refine ⟨by simp, .inl ⟨_, _, rfl, run_takeDeferred (unhide HKD), ?_⟩⟩
      refine ⟨_, results_tmp rfl _ _ _, rfl, ⟨{ L with hv := fun d' b' p' => if d' = d ∧ b' = b then hv p' else L.hv d' b' p' }, rfl, by rw [unhide HFIN]; exact (unhide HN5).cells (fun k cur t hk => (World.putObj_heap_other (fun e => by subst e; rw [unhide HKD] at hk; cases hk)).trans hk)⟩, (unhide HK5).put _ (by omega) (by omega)⟩
    · have herr : s.err = 0 := by rw [Nd.err, if_neg hl1]
      rw [herr]
      have hs6 := hN5.setB (d := d) (b := b) (i := 2) hd hb (by omega) (.int .i64 0) s.bad (put2 s.next d b 0) (put2 s.era d b (inc (s.era d b))) (fun d' b' => by unfold put2; split; exact Nat.zero_le _; exact hN4.ok.nx d' b')
        (fun d' b' j hd' hb' hj => by
          match j, hj with
          | 0, _ => rw [if_neg (fun h => by have := h.2.2; omega)]; rfl
          | 1, _ => rw [if_neg (fun h => by have := h.2.2; omega)]; rfl
          | 3, _ => rw [if_neg (fun h => by have := h.2.2; omega)]; rfl
          | 2, _ =>
            show Value.int .i64 ((put2 s.next d b 0 d' b' : Nat) : Int) = _
            unfold put2
            by_cases e : d' = d ∧ b' = b
            · rw [if_pos e, if_pos ⟨e.1, e.2, rfl⟩]; rfl
            · rw [if_neg e, if_neg (fun h => e ⟨h.1, h.2.1⟩)]; rfl)
      have hcn : (A.setCell ⟨L.bs d, b * 4 + 3, none⟩ (.int .i64 (inc (s.era d b)))).cell? ⟨L.bs d, b * 4 + 2, none⟩ = some (.int .i64 (s.next d b : Nat)) := hN5.bc hd hb (j := 2) (by omega)
      have hfn := hN5.bf (d := d) hd (b * 4 + 2)
      unfold inc at hcn hfn
      have hK6 := (heap_set_ne (A := A.setCell ⟨L.bs d, b * 4 + 3, none⟩ (.int .i64 (inc (s.era d b)))) (q := L.bs d) (j := b * 4 + 2) (.int .i64 0) (k := D1) (by omega)).trans hK5
      have hfin : s.erased d b = { s.begun with held := fun d' b' p' => if d' = d ∧ b' = b then s.mixed (s.held d b p') ones60 else s.held d' b' p', era := put2 s.era d b (inc (s.era d b)), next := put2 s.next d b 0 } := by unfold Nd.erased; rw [if_neg hl1]
      have HFIN := hide hfin
      have HN5 := hide hs6.1
      have HK5 := hide (((unhide HKA).trans hKk5).trans hs6.2)
      have HKD := hide hK6
      clear hN4 hK4 hN5 hKk5 hfin h1 h2 h3 h4 h5 hin hK hK5 hK6 hs6
      gi_wp2
      refine ⟨by simp, .inl ⟨_, _, rfl, run_takeDeferred (unhide HKD), ?_⟩⟩
      refine ⟨_, results_tmp rfl _ _ _, rfl, ⟨{ L with hv := fun d' b' p' => if d' = d ∧ b' = b then hv p' else L.hv d' b' p' }, rfl, by rw [unhide HFIN]; exact (unhide HN5).cells (fun k cur t hk => (World.putObj_heap_other (fun e => by subst e; rw [unhide HKD] at hk; cases hk)).trans hk)⟩, (unhide HK5).put _ (by omega) (by omega)⟩
  case round =>
    rintro l pre x A ⟨hv, h1, h2, h3, h4, h5, h6⟩ hlen hs2A
    have hx := x.isLt
    gi_wp2
    refine ⟨⟨Ky.refl _ _ _ _, hv, h1, h2, h3, h4, h5, h6⟩, ?_⟩
    clear h1 h2 h3 h4 h5 h6 hv
    rintro W₂ hsz2 - - ⟨hv, h1, h2, h3, h4, h5, h6⟩
    have hs3 : w3.heap.size + 2 + 0 ≤ W₂.heap.size := by omega
    clear hsz2 hs2A
    obtain ⟨i, hi⟩ : ∃ i, x.val = i := ⟨_, rfl⟩
    have HI := hide hi
    rw [hi] at hx ⊢
    clear hi
    obtain ⟨cps, hcps, _⟩ := (unhide HN3).pages d b hd hb
    have C0 := hide (h1.c0 hx).1
    have CD : Hid (W₂.cell? ⟨w1.heap.size, 0, none⟩ = some (.slice dvo dvn dvc)) := (World.cell?_of_block (h4 w1.heap.size (by omega) (by omega))).trans (unhide HCD3)
    have hdvF : Fr 0 W₂ (.slice dvo dvn dvc) t := (unhide HF3).same (by decide) hcps h4
    obtain ⟨cu, hcu, hcul, hcub, hcum⟩ : ∃ cu : List Nat, Fr 0 W₂ (hv i) cu ∧ cu.length = 60 ∧ Bs cu ∧ s.mixed cu ones60 = s.mixed (s.held d b i) ones60 := by
      have hll : (s.held d b i).length = 60 := (unhide HN3).ok.len d b i
      have hbb : Bs (s.held d b i) := (unhide HN3).ok.bs d b i
      by_cases e : i ∈ pre.map Fin.val
      · exact ⟨_, (h2 i hx e).low, mixed_len hll ones60_len, mixed_bs hbb ones60_bs, mixed_again (by rw [hll, ones60_len]) hbb ones60_bs⟩
      · refine ⟨_, ?_, hll, hbb, rfl⟩
        rw [h3 i hx e]
        exact ((unhide HN3).hold d b i hd hb hx).same (by decide) hcps h4
    obtain ⟨gc, hAc, _⟩ := hcu.arg hcub
    obtain ⟨gt, hAt, _⟩ := hdvF.arg (unhide HBT)
    obtain ⟨hvo, hvn, hvc, hvi⟩ : ∃ o n c, hv i = .slice o n c := by
      obtain ⟨o, c, h⟩ := hcu.shape
      exact ⟨_, _, _, h⟩
    rw [hvi] at hAc C0
    have HAC := hide (hAc.below (Below.refl _ _).drew)
    have HAT := hide (hAt.below (Below.refl _ _).drew)
    have HCUM := hide hcum
    have HCUB := hide hcub
    have H1 := hide h1
    have H2 := hide h2
    have H3 := hide h3
    have H4 := hide h4
    have H5 := hide h5
    have HLP : Hid (L.ps d b < W₂.drew.heap.size) := h1.lt
    replace C0 : Hid (W₂.drew.cell? ⟨L.ps d b, i * 2, none⟩ = some (.slice hvo hvn hvc)) := unhide C0
    replace CD : Hid (W₂.drew.cell? ⟨w1.heap.size, 0, none⟩ = some (.slice dvo dvn dvc)) := unhide CD
    clear h1 h2 h3 h4 h5 hcu hAc hdvF hAt hcum hcub hvi
    gi_wp2
    refine wpIn_region_round (S := fun W' => Kp [L.ps d b] W₂.drew W') (by kernel_rfl) (by kernel_rfl) (fun ⟨_, _, h⟩ => h) (Kp.refl _ _) (fun hHeld => ?_)
    have HH := hide hHeld
    clear hHeld
    refine takeL (i := 0) (v := ?_) rfl (by kernel_rfl) (by kernel_rfl) (by kernel_rfl) (fun _ _ _ h => h) (Or.inl ⟨by rfl, ?_⟩) (unhide HH) ?_
    rotate_left 1
    · intro W hSW; go_simp; all_goals (with_reducible rfl)
    (try simp only [Act.put, List.setIfInBounds_toArray, List.set_cons_zero, List.set_cons_succ])
    refine takeL (i := 1) (v := ?_) rfl (by kernel_rfl) (by kernel_rfl) (by kernel_rfl) (fun _ _ _ h => h) (Or.inl ⟨by rfl, ?_⟩) (unhide HH) ?_
    rotate_left 1
    · intro W hSW; go_simp; all_goals (with_reducible rfl)
    (try simp only [Act.put, List.setIfInBounds_toArray, List.set_cons_zero, List.set_cons_succ])
    refine takeL (i := 2) (v := ?_) rfl (by kernel_rfl) (by kernel_rfl) (by kernel_rfl) (fun _ _ _ h => h) (Or.inl ⟨by rfl, ?_⟩) (unhide HH) ?_
    rotate_left 1
    · intro W hSW; go_simp; all_goals (with_reducible rfl)
    (try simp only [Act.put, List.setIfInBounds_toArray, List.set_cons_zero, List.set_cons_succ])
    refine takeL (i := 3) (v := ?_) rfl (by kernel_rfl) (by kernel_rfl) (by kernel_rfl) (fun _ _ _ h => h) (Or.inl ⟨by rfl, ?_⟩) (unhide HH) ?_
    rotate_left 1
    · intro W hSW; go_simp; all_goals (with_reducible rfl)
    (try simp only [Act.put, List.setIfInBounds_toArray, List.set_cons_zero, List.set_cons_succ])
    refine takeL (i := 6) (v := ?_) rfl (by kernel_rfl) (by kernel_rfl) (by kernel_rfl) (fun _ _ _ h => h) (Or.inl ⟨by rfl, ?_⟩) (unhide HH) ?_
    rotate_left 1
    · intro W1 hSW; have hcl := hSW.cell (unhide CD) (by simp; omega); clear hSW; go_simp; all_goals (with_reducible rfl)
    (try simp only [Act.put, List.setIfInBounds_toArray, List.set_cons_zero, List.set_cons_succ])
    refine wpAnyH_ready (rs := [4, 5]) (by kernel_rfl) (by simp) ?_
    refine consL rfl (fun K hK => ?_) (consL rfl (fun K hK => ?_) AllReadyH.nil)
    focus
      have hcl := unhide C0
      go_simp
      clear hcl
      refine hK.out _ _ (unhide HH) (fun hHeld => ?_)
      clear hK K HH
      have HH := hide hHeld
      clear hHeld
      (try simp only [Act.put, List.setIfInBounds_toArray, List.set_cons_zero, List.set_cons_succ])
      refine wpAnyH_ready (rs := [5]) (by kernel_rfl) (by simp) ?_
      refine consL rfl (fun K hK => ?_) AllReadyH.nil
      go_simp
      refine (allOnes_any W₂.drew).mono ?_
      rintro e W4 ⟨v4, rfl, hF4, hb4⟩
      obtain ⟨g4, hA4, _⟩ := hF4.arg ones60_bs
      go_wp2_with fail
      have HB4 := hide hb4
      have HA4 := hide hA4
      refine hK.out _ _ ((Kp.refl _ _).ofBelow hb4) (fun hHeld => ?_)
      clear hK K HH
      have HH := hide hHeld
      clear hHeld
      (try simp only [Act.put, List.setIfInBounds_toArray, List.set_cons_zero, List.set_cons_succ])
      clear hF4 hb4 hA4
      refine wpAnyH_ready (rs := [7]) (by kernel_rfl) (by simp) ?_
      refine consL rfl (fun K hK => ?_) AllReadyH.nil
      go_simp
      refine (mix_any _ _ _ gc g4 gt _ _ t W4 ((unhide HAC).below (unhide HB4)) (unhide HA4) ((unhide HAT).below (unhide HB4)) (by rw [hcul]; simp)).mono ?_
      rintro e W5 ⟨r, rfl, hF5, hb5⟩
      replace hF5 : Fr W4.heap.size W5 r (s.mixed (s.held d b i) ones60) := by
        have he := unhide HMX cu (List.replicate 60 255) hcul ones60_len (unhide HCUB) ones60_bs
        have he2 := unhide HCUM
        rw [he] at hF5
        rw [← he2]
        exact hF5
      obtain ⟨ro, rn, rc, rfl⟩ : ∃ o n c, r = .slice o n c := by
        obtain ⟨o, c, h⟩ := hF5.shape
        exact ⟨_, _, _, h⟩
      go_wp2_with fail
      have HB5 := hide ((unhide HB4).trans (hb5.mono (unhide HB4).size))
      have HF5 := hide (hF5.below (Below.refl _ _) (Nat.le_trans hs3 (unhide HB4).size))
      refine hK.out _ _ ((Kp.refl _ _).ofBelow (unhide HB5)) (fun hHeld => ?_)
      clear hK K HH
      have HH := hide hHeld
      clear hHeld
      (try simp only [Act.put, List.setIfInBounds_toArray, List.set_cons_zero, List.set_cons_succ])
      clear hF5 hb5
      refine takeL (i := 8) (v := ?_) rfl (by kernel_rfl) (by kernel_rfl) (by kernel_rfl) (fun _ _ _ h => h) (Or.inl ⟨by rfl, ?_⟩) (unhide HH) ?_
      rotate_left 1
      · intro W hSW; go_simp; all_goals (with_reducible rfl)
      (try simp only [Act.put, List.setIfInBounds_toArray, List.set_cons_zero, List.set_cons_succ])
      refine takeL (i := 9) (v := ?_) rfl (by kernel_rfl) (by kernel_rfl) (by kernel_rfl) (fun _ _ _ h => h) (Or.inl ⟨by rfl, ?_⟩) (unhide HH) ?_
      rotate_left 1
      · intro W hSW; go_simp; all_goals (with_reducible rfl)
      (try simp only [Act.put, List.setIfInBounds_toArray, List.set_cons_zero, List.set_cons_succ])
      refine wpAnyH_ready (rs := [10]) (by kernel_rfl) (by simp) ?_
      refine consL rfl (fun K hK => ?_) AllReadyH.nil
      have hG5 := (unhide H1).of (w' := W5) ((unhide HB5).block _ (unhide HLP))
      obtain ⟨hc5, hf5⟩ := hG5.c0 hx
      have HG6 := hide (hG5.setH hx (.slice ro rn rc))
      clear hG5
      go_simp
      refine hK.out _ _ (((Kp.refl _ _).ofBelow (unhide HB5)).setCell ⟨L.ps d b, i * 2, none⟩ _ (.inl (by simp))) (fun hHeld => ?_)
      clear hHeld hK K hc5 hf5
      (try simp only [Act.put, List.setIfInBounds_toArray, List.set_cons_zero, List.set_cons_succ])
      refine wpAnyH_done (by kernel_rfl) ?_ _
      have hb5 := unhide HB5
      have hoth : ∀ k : Nat, k ≠ L.ps d b → (W5.setCell ⟨L.ps d b, i * 2, none⟩ (.slice ro rn rc)).heap[k]? = W5.heap[k]? := fun k hk => Below.heap_setCell _ _ _ _ hk
      have hsz5 : (W5.setCell ⟨L.ps d b, i * 2, none⟩ (.slice ro rn rc)).heap.size = W5.heap.size := by simp [World.setCell]
      have hz5 : W₂.heap.size ≤ W5.heap.size := hb5.size
      have hsm : ∀ k : Nat, k < W₂.heap.size → k ≠ L.ps d b → (W5.setCell ⟨L.ps d b, i * 2, none⟩ (.slice ro rn rc)).heap[k]? = W₂.heap[k]? := fun k hk hne => (hoth k hne).trans (hb5.block k hk)
      have hfr : ∀ {u : Value} {l : List Nat}, Fr (w3.heap.size + 2 + 0) W5 u l → Fr (w3.heap.size + 2 + 0) (W5.setCell ⟨L.ps d b, i * 2, none⟩ (.slice ro rn rc)) u l := fun {u l} h => by
        rcases h with h | ⟨g, c, h1, h2, h3, h4, h5⟩
        · exact .inl h
        · exact .inr ⟨g, c, h1, h2, h3, h4.of (hoth g (by omega)), h5⟩
      refine ⟨⟨by omega, fun k hk hor => hsm k hk (by rcases hor with h | h | h <;> omega)⟩, _, unhide HG6, fun p hp hm => ?_, fun p hp hm => ?_, fun k hk hne => (hsm k (by omega) hne).trans (unhide H4 k hk hne), ⟨hb5.os.trans (unhide H5).1, hb5.tape.trans (unhide H5).2.1, hb5.output.trans (unhide H5).2.2⟩, by omega⟩
      · by_cases e : p = i
        · simp only [if_pos e]
          subst e
          exact hfr (unhide HF5)
        · simp only [if_neg e]
          rw [List.map_append, List.mem_append] at hm
          rcases hm with hm | hm
          · exact hfr ((unhide H2 p hp hm).below (show Below W₂.heap.size W₂ W5 from (Below.refl _ W₂).drew.trans hb5) (Nat.le_refl _))
          · have : p = x.val := by simpa using hm
            exact absurd (this.trans (unhide HI)) e
      · rw [List.map_append, List.mem_append] at hm
        have e : p ≠ i := fun e => hm (.inr (by rw [e, ← unhide HI]; simp))
        simp only [if_neg e]
        exact unhide H3 p hp (fun h => hm (.inl h))
    focus
      go_simp
      refine (allOnes_any W₂.drew).mono ?_
      rintro e W4 ⟨v4, rfl, hF4, hb4⟩
      obtain ⟨g4, hA4, _⟩ := hF4.arg ones60_bs
      go_wp2_with fail
      have HB4 := hide hb4
      have HA4 := hide hA4
      refine hK.out _ _ ((Kp.refl _ _).ofBelow hb4) (fun hHeld => ?_)
      clear hK K HH
      have HH := hide hHeld
      clear hHeld
      (try simp only [Act.put, List.setIfInBounds_toArray, List.set_cons_zero, List.set_cons_succ])
      clear hF4 hb4 hA4
      refine wpAnyH_ready (rs := [4]) (by kernel_rfl) (by simp) ?_
      refine consL rfl (fun K hK => ?_) AllReadyH.nil
      have hcl := below_cell' (unhide HB4) (unhide C0) (unhide HLP)
      go_simp
      clear hcl
      refine hK.out _ _ (unhide HH) (fun hHeld => ?_)
      clear hK K HH
      have HH := hide hHeld
      clear hHeld
      (try simp only [Act.put, List.setIfInBounds_toArray, List.set_cons_zero, List.set_cons_succ])
      refine wpAnyH_ready (rs := [7]) (by kernel_rfl) (by simp) ?_
      refine consL rfl (fun K hK => ?_) AllReadyH.nil
      go_simp
      refine (mix_any _ _ _ gc g4 gt _ _ t W4 ((unhide HAC).below (unhide HB4)) (unhide HA4) ((unhide HAT).below (unhide HB4)) (by rw [hcul]; simp)).mono ?_
      rintro e W5 ⟨r, rfl, hF5, hb5⟩
      replace hF5 : Fr W4.heap.size W5 r (s.mixed (s.held d b i) ones60) := by
        have he := unhide HMX cu (List.replicate 60 255) hcul ones60_len (unhide HCUB) ones60_bs
        have he2 := unhide HCUM
        rw [he] at hF5
        rw [← he2]
        exact hF5
      obtain ⟨ro, rn, rc, rfl⟩ : ∃ o n c, r = .slice o n c := by
        obtain ⟨o, c, h⟩ := hF5.shape
        exact ⟨_, _, _, h⟩
      go_wp2_with fail
      have HB5 := hide ((unhide HB4).trans (hb5.mono (unhide HB4).size))
      have HF5 := hide (hF5.below (Below.refl _ _) (Nat.le_trans hs3 (unhide HB4).size))
      refine hK.out _ _ ((Kp.refl _ _).ofBelow (unhide HB5)) (fun hHeld => ?_)
      clear hK K HH
      have HH := hide hHeld
      clear hHeld
      (try simp only [Act.put, List.setIfInBounds_toArray, List.set_cons_zero, List.set_cons_succ])
      clear hF5 hb5
      refine takeL (i := 8) (v := ?_) rfl (by kernel_rfl) (by kernel_rfl) (by kernel_rfl) (fun _ _ _ h => h) (Or.inl ⟨by rfl, ?_⟩) (unhide HH) ?_
      rotate_left 1
      · intro W hSW; go_simp; all_goals (with_reducible rfl)
      (try simp only [Act.put, List.setIfInBounds_toArray, List.set_cons_zero, List.set_cons_succ])
      refine takeL (i := 9) (v := ?_) rfl (by kernel_rfl) (by kernel_rfl) (by kernel_rfl) (fun _ _ _ h => h) (Or.inl ⟨by rfl, ?_⟩) (unhide HH) ?_
      rotate_left 1
      · intro W hSW; go_simp; all_goals (with_reducible rfl)
      (try simp only [Act.put, List.setIfInBounds_toArray, List.set_cons_zero, List.set_cons_succ])
      refine wpAnyH_ready (rs := [10]) (by kernel_rfl) (by simp) ?_
      refine consL rfl (fun K hK => ?_) AllReadyH.nil
      have hG5 := (unhide H1).of (w' := W5) ((unhide HB5).block _ (unhide HLP))
      obtain ⟨hc5, hf5⟩ := hG5.c0 hx
      have HG6 := hide (hG5.setH hx (.slice ro rn rc))
      clear hG5
      go_simp
      refine hK.out _ _ (((Kp.refl _ _).ofBelow (unhide HB5)).setCell ⟨L.ps d b, i * 2, none⟩ _ (.inl (by simp))) (fun hHeld => ?_)
      clear hHeld hK K hc5 hf5
      (try simp only [Act.put, List.setIfInBounds_toArray, List.set_cons_zero, List.set_cons_succ])
      refine wpAnyH_done (by kernel_rfl) ?_ _
      have hb5 := unhide HB5
      have hoth : ∀ k : Nat, k ≠ L.ps d b → (W5.setCell ⟨L.ps d b, i * 2, none⟩ (.slice ro rn rc)).heap[k]? = W5.heap[k]? := fun k hk => Below.heap_setCell _ _ _ _ hk
      have hsz5 : (W5.setCell ⟨L.ps d b, i * 2, none⟩ (.slice ro rn rc)).heap.size = W5.heap.size := by simp [World.setCell]
      have hz5 : W₂.heap.size ≤ W5.heap.size := hb5.size
      have hsm : ∀ k : Nat, k < W₂.heap.size → k ≠ L.ps d b → (W5.setCell ⟨L.ps d b, i * 2, none⟩ (.slice ro rn rc)).heap[k]? = W₂.heap[k]? := fun k hk hne => (hoth k hne).trans (hb5.block k hk)
      have hfr : ∀ {u : Value} {l : List Nat}, Fr (w3.heap.size + 2 + 0) W5 u l → Fr (w3.heap.size + 2 + 0) (W5.setCell ⟨L.ps d b, i * 2, none⟩ (.slice ro rn rc)) u l := fun {u l} h => by
        rcases h with h | ⟨g, c, h1, h2, h3, h4, h5⟩
        · exact .inl h
        · exact .inr ⟨g, c, h1, h2, h3, h4.of (hoth g (by omega)), h5⟩
      refine ⟨⟨by omega, fun k hk hor => hsm k hk (by rcases hor with h | h | h <;> omega)⟩, _, unhide HG6, fun p hp hm => ?_, fun p hp hm => ?_, fun k hk hne => (hsm k (by omega) hne).trans (unhide H4 k hk hne), ⟨hb5.os.trans (unhide H5).1, hb5.tape.trans (unhide H5).2.1, hb5.output.trans (unhide H5).2.2⟩, by omega⟩
      · by_cases e : p = i
        · simp only [if_pos e]
          subst e
          exact hfr (unhide HF5)
        · simp only [if_neg e]
          rw [List.map_append, List.mem_append] at hm
          rcases hm with hm | hm
          · exact hfr ((unhide H2 p hp hm).below (show Below W₂.heap.size W₂ W5 from (Below.refl _ W₂).drew.trans hb5) (Nat.le_refl _))
          · have : p = x.val := by simpa using hm
            exact absurd (this.trans (unhide HI)) e
      · rw [List.map_append, List.mem_append] at hm
        have e : p ≠ i := fun e => hm (.inr (by rw [e, ← unhide HI]; simp))
        simp only [if_neg e]
        exact unhide H3 p hp (fun h => hm (.inl h))

end Go.Proofs.Ytnondiaefpdlpaa
