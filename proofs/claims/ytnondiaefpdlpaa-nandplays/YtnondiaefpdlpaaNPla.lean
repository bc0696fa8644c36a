/-
  The walk of NandPlays.
-/
import Derived.Test.YtnondiaefpdlpaaD7k
import Derived.Test.YtnondiaefpdlpaaS7e
import Derived.Test.YtnondiaefpdlpaaS7a
import Derived.Test.YtnondiaefpdlpaaV7f
import Derived.Test.YtnondiaefpdlpaaH7k
namespace Go.Proofs.Ytnondiaefpdlpaa
open Go.RowKit Go.Shelf

theorem NA.sink {m n : Nat} {w : World} {L : La} {s : Nd} (h : NA m w L s) (k : n ≤ m) : NA n w L s :=
  ⟨h.ok, h.top, h.dies, h.blocks, h.pages, h.hold, h.nois, h.msk, h.inj1, h.inj2, Nat.le_trans k h.low0, Nat.le_trans k h.low1, fun d hd => Nat.le_trans k (h.low2 d hd), fun d b hd hb => Nat.le_trans k (h.low3 d b hd hb)⟩
theorem RA.sink {m n : Nat} {w : World} {L : Lr} {s : Nd} (h : RA m w L s) (k : n ≤ m) : RA n w L s :=
  ⟨h.ok, h.top, h.rb, h.rl, h.blocks, h.lk, h.pg, h.ng, h.hold, h.nois, h.msk, h.xb, h.xl, h.cb, h.cl, h.cp, h.inj1, h.inj3, h.inj4, Nat.le_trans k h.low0, fun d hd => Nat.le_trans k (h.low1 d hd), fun d b hd hb => Nat.le_trans k (h.low2 d b hd hb), fun d b hd hb => Nat.le_trans k (h.low3 d b hd hb)⟩
theorem AArg.below {w w' : World} {v : Value} {g : Nat} {l : List AD} (h : AArg w v g l) (k : Below w.heap.size w w') : AArg w' v g l := by
  obtain ⟨ao, c, h1, h2, h3, h4⟩ := h.ex
  refine ⟨ao, c, h1, h2, h3, fun hne => ?_⟩
  obtain ⟨o, h5, h6⟩ := h4 hne
  refine ⟨o, h5, fun i a hi => ?_⟩
  obtain ⟨h7, h8⟩ := h6 i a hi
  exact ⟨fun j v hj => (k.cell (block_lt_of_cell (h7 j v hj))).trans (h7 j v hj), h8.hb.below k, h8.hl.below k⟩
/-- The acts are few, and below m. -/
def Acts (m : Nat) (l : List AD) : Prop := ∀ (i : Nat) (a : AD), l[i]? = some a → a.bn ≤ 100 ∧ a.ln ≤ 20 ∧ (a.x ≠ [] → a.gb < m) ∧ (a.z ≠ [] → a.gl < m)

set_option maxRecDepth 100000 in
set_option maxHeartbeats 16000000 in
theorem plays_walk (D B P : Int) (zo : Option Addr) (zn zc gz : Nat) (zs : List Int) (ao : Option Addr) (n c g : Nat) (l : List AD) (w : World) (hZ : ZArg w (.slice zo zn zc) gz zs) (hA : AArg w (.slice ao n c) g l) :
    Calls Try.prog 3 #[.agg #[.int .i64 D, .int .i64 B, .int .i64 P], .slice zo zn zc, .slice ao n c] w fun e w' => e = .returned (.bool true) ∧ Below w.heap.size w w' := by
  have hal : Below w.heap.size w (w.alloc (.cells #[.int .i64 D, .int .i64 B, .int .i64 P] 23)) := (Below.refl _ _).alloc (Nat.le_refl _) _
  have hnn := World.alloc_heap_new w (.cells #[.int .i64 D, .int .i64 B, .int .i64 P] 23)
  have HT := hide hal
  have HG := hide hnn
  have HZ := hide hZ
  have HA := hide hA
  clear hal hnn hZ hA
  go_enter Try.func3, Try.ntmps3
  go_wp2_with fail
  refine (known_any _).mono ?_
  rintro e w0 ⟨rfl, hk⟩
  replace HT := hide ((unhide HT).trans (hk.mono (unhide HT).size))
  replace HG := hide ((hk.block _ (lt_of_block (unhide HG))).trans (unhide HG))
  clear hk
  go_wp2_with fail
  refine (few_any _ _ _ _ g l ((unhide HA).below (unhide HT))).mono ?_
  rintro e w1 ⟨hw, r, rfl, hF⟩
  subst hw
  cases r
  · go_wp2_with fail
    go_returns
    exact ⟨rfl, unhide HT⟩
  · obtain ⟨hn60, hF⟩ := hF rfl
    have HX : Hid (Acts w.heap.size l) := fun i a hi => by
      have hne : l ≠ [] := fun e => by rw [e] at hi; simp at hi
      obtain ⟨_, _, _, _, _, h4⟩ := (unhide HA).ex
      obtain ⟨o, h5, h6⟩ := h4 hne
      have h8 := (h6 i a hi).2
      exact ⟨(hF i a hi).1, (hF i a hi).2, h8.hb.lt, h8.hl.lt⟩
    clear hF
    have c0 : w1.cell? ⟨w.heap.size, 0, none⟩ = some (.int .i64 D) := cell_blk (unhide HG) rfl
    have c1 : w1.cell? ⟨w.heap.size, 1, none⟩ = some (.int .i64 B) := cell_blk (unhide HG) rfl
    have c2 : w1.cell? ⟨w.heap.size, 2, none⟩ = some (.int .i64 P) := cell_blk (unhide HG) rfl
    go_wp2_with fail
    refine (make_any D B P _).mono ?_
    rintro e w2 ⟨d, b, p, hok, hm, rfl, hk⟩
    replace HT := hide ((unhide HT).trans (hk.mono (unhide HT).size))
    clear c0 c1 c2 hm HG hk
    have hd8 : d ≤ 8 := by have := hok.1.2; omega
    have hb12 : b ≤ 12 := by have := hok.2.1.2; omega
    have hb0 : 0 < b := by have := hok.2.1.1; omega
    have hp0 : 0 < p := by have := hok.2.2.1; omega
    have HSP : Hid (okB d b (spo b zs (min zn d))) := spo_ok (Nat.min_le_right _ _) hb0
    have hn3 := World.alloc_heap_new w2 (.cells #[.int .i64 0, .int .i64 0, .int .i64 0] 23)
    have e0 : (w2.alloc (.cells #[.int .i64 0, .int .i64 0, .int .i64 0] 23)).cell? ⟨w2.heap.size, 0, none⟩ = some (.int .i64 0) := cell_blk hn3 rfl
    have e1 : (w2.alloc (.cells #[.int .i64 0, .int .i64 0, .int .i64 0] 23)).cell? ⟨w2.heap.size, 1, none⟩ = some (.int .i64 0) := cell_blk hn3 rfl
    have e2 : (w2.alloc (.cells #[.int .i64 0, .int .i64 0, .int .i64 0] 23)).cell? ⟨w2.heap.size, 2, none⟩ = some (.int .i64 0) := cell_blk hn3 rfl
    have f0 : (w2.alloc (.cells #[.int .i64 0, .int .i64 0, .int .i64 0] 23)).frozen? ⟨w2.heap.size, 0, none⟩ = false := free_blk hn3
    have f1 : (w2.alloc (.cells #[.int .i64 0, .int .i64 0, .int .i64 0] 23)).frozen? ⟨w2.heap.size, 1, none⟩ = false := free_blk hn3
    have f2 : (w2.alloc (.cells #[.int .i64 0, .int .i64 0, .int .i64 0] 23)).frozen? ⟨w2.heap.size, 2, none⟩ = false := free_blk hn3
    have HG := hide (World.alloc_heap_new w2 (.cells #[.int .i64 (d : Int), .int .i64 (b : Int), .int .i64 (p : Int)] 23))
    have hk : Below w2.heap.size w2 (w2.alloc (.cells #[.int .i64 (d : Int), .int .i64 (b : Int), .int .i64 (p : Int)] 23)) := (Below.refl _ _).alloc (Nat.le_refl _) _
    replace HT := hide ((unhide HT).trans (hk.mono (unhide HT).size))
    clear hk hn3
    go_wp2_with fail
    clear e0 e1 e2 f0 f1 f2
    generalize w2.alloc (.cells #[.int .i64 (d : Int), .int .i64 (b : Int), .int .i64 (p : Int)] 23) = w3 at HT HG ⊢
    obtain ⟨q, hq⟩ : ∃ q, w2.heap.size = q := ⟨_, rfl⟩
    rw [hq] at HG ⊢
    clear hq
    replace HT : Hid (Below w.heap.size w w3.drew) := (unhide HT).drew
    replace HG : Hid (w3.drew.heap[q]? = some (.cells #[.int .i64 (d : Int), .int .i64 (b : Int), .int .i64 (p : Int)] 23 (0, 0))) := unhide HG
    refine wp_region_noPanic ?_
    refine wp_region_held_drew (S := fun W => W.cell? ⟨q, 0, none⟩ = some (.int .i64 (d : Int)) ∧ W.cell? ⟨q, 1, none⟩ = some (.int .i64 (b : Int)) ∧ W.cell? ⟨q, 2, none⟩ = some (.int .i64 (p : Int))) (by kernel_rfl) ?_ (fun hHeld => ?_)
    · exact ⟨cell_blk (unhide HG) rfl, cell_blk (unhide HG) rfl, cell_blk (unhide HG) rfl⟩
    have HH := hide hHeld
    clear hHeld
    generalize w3.drew = V at HT HG HH ⊢
    refine takeL (i := 0) (v := ?_) rfl (by kernel_rfl) (by kernel_rfl) (by kernel_rfl) (fun _ _ _ h => h) (Or.inl ⟨by rfl, ?_⟩) (unhide HH) ?_
    rotate_left 1
    · intro W1 ⟨s0, s1, s2⟩; go_simp; all_goals (with_reducible rfl)
    (try simp only [Act.put, List.setIfInBounds_toArray, List.set_cons_zero, List.set_cons_succ])
    refine takeL (i := 1) (v := ?_) rfl (by kernel_rfl) (by kernel_rfl) (by kernel_rfl) (fun _ _ _ h => h) (Or.inl ⟨by rfl, ?_⟩) (unhide HH) ?_
    rotate_left 1
    · intro W1 ⟨s0, s1, s2⟩; go_simp; all_goals (with_reducible rfl)
    (try simp only [Act.put, List.setIfInBounds_toArray, List.set_cons_zero, List.set_cons_succ])
    refine takeL (i := 2) (v := ?_) rfl (by kernel_rfl) (by kernel_rfl) (by kernel_rfl) (fun _ _ _ h => h) (Or.inl ⟨by rfl, ?_⟩) (unhide HH) ?_
    rotate_left 1
    · intro W1 ⟨s0, s1, s2⟩; go_simp; all_goals (with_reducible rfl)
    (try simp only [Act.put, List.setIfInBounds_toArray, List.set_cons_zero, List.set_cons_succ])
    refine wpAnyH_ready (rs := [3]) (by kernel_rfl) (by simp) ?_
    refine consL rfl (fun K hK => ?_) AllReadyH.nil
    go_simp
    refine (spoil_any d b p _ _ _ gz zs _ hd8 hb12 hb0 ((unhide HZ).below (unhide HT))).mono ?_
    rintro e V1 ⟨v, rfl, hO, hk⟩
    obtain ⟨ov, cv, hv⟩ := hO.shape
    subst hv
    obtain ⟨gv, hP⟩ := hO.parg
    have HP := hide hP
    replace HT := hide ((unhide HT).trans (hk.mono (unhide HT).size))
    replace HG := hide ((hk.block _ (lt_of_block (unhide HG))).trans (unhide HG))
    clear hk hO hP
    go_wp2_with fail
    refine hK.out _ _ (⟨cell_blk (unhide HG) rfl, cell_blk (unhide HG) rfl, cell_blk (unhide HG) rfl⟩) (fun hHeld => ?_)
    clear hK K HH
    have HH := hide hHeld
    clear hHeld
    (try simp only [Act.put, List.setIfInBounds_toArray, List.set_cons_zero, List.set_cons_succ])
    refine wpAnyH_ready (rs := [4]) (by kernel_rfl) (by simp) ?_
    refine consL rfl (fun K hK => ?_) AllReadyH.nil
    go_simp
    refine (new_any d b p _ gv _ _ hok (unhide HP)).mono ?_
    rintro e V2 ⟨hk, ⟨hno, _⟩ | ⟨_, L, rfl, hN⟩⟩
    · exact absurd (unhide HSP) hno
    have HN := hide (hN.sink (unhide HT).size)
    clear hN
    replace HT := hide ((unhide HT).trans (hk.mono (unhide HT).size))
    replace HG := hide ((hk.block _ (lt_of_block (unhide HG))).trans (unhide HG))
    clear hk HP
    go_wp2_with fail
    refine hK.out _ _ (⟨cell_blk (unhide HG) rfl, cell_blk (unhide HG) rfl, cell_blk (unhide HG) rfl⟩) (fun hHeld => ?_)
    clear hK K HH
    have HH := hide hHeld
    clear hHeld
    (try simp only [Act.put, List.setIfInBounds_toArray, List.set_cons_zero, List.set_cons_succ])
    refine takeL (i := 5) (v := ?_) rfl (by kernel_rfl) (by kernel_rfl) (by kernel_rfl) (fun _ _ _ h => h) (Or.inl ⟨by rfl, ?_⟩) (unhide HH) ?_
    rotate_left 1
    · intro W1 ⟨s0, s1, s2⟩; go_simp; all_goals (with_reducible rfl)
    (try simp only [Act.put, List.setIfInBounds_toArray, List.set_cons_zero, List.set_cons_succ])
    refine takeL (i := 6) (v := ?_) rfl (by kernel_rfl) (by kernel_rfl) (by kernel_rfl) (fun _ _ _ h => h) (Or.inl ⟨by rfl, ?_⟩) (unhide HH) ?_
    rotate_left 1
    · intro W1 ⟨s0, s1, s2⟩; go_simp; all_goals (with_reducible rfl)
    (try simp only [Act.put, List.setIfInBounds_toArray, List.set_cons_zero, List.set_cons_succ])
    refine takeL (i := 7) (v := ?_) rfl (by kernel_rfl) (by kernel_rfl) (by kernel_rfl) (fun _ _ _ h => h) (Or.inl ⟨by rfl, ?_⟩) (unhide HH) ?_
    rotate_left 1
    · intro W1 ⟨s0, s1, s2⟩; go_simp; all_goals (with_reducible rfl)
    (try simp only [Act.put, List.setIfInBounds_toArray, List.set_cons_zero, List.set_cons_succ])
    refine takeL (i := 8) (v := ?_) rfl (by kernel_rfl) (by kernel_rfl) (by kernel_rfl) (fun _ _ _ h => h) (Or.inl ⟨by rfl, ?_⟩) (unhide HH) ?_
    rotate_left 1
    · intro W1 ⟨s0, s1, s2⟩; go_simp; all_goals (with_reducible rfl)
    (try simp only [Act.put, List.setIfInBounds_toArray, List.set_cons_zero, List.set_cons_succ])
    refine takeL (i := 9) (v := ?_) rfl (by kernel_rfl) (by kernel_rfl) (by kernel_rfl) (fun _ _ _ h => h) (Or.inl ⟨by rfl, ?_⟩) (unhide HH) ?_
    rotate_left 1
    · intro W1 ⟨s0, s1, s2⟩; go_simp; all_goals (with_reducible rfl)
    (try simp only [Act.put, List.setIfInBounds_toArray, List.set_cons_zero, List.set_cons_succ])
    refine wpAnyH_done (by kernel_rfl) ?_ _
    refine NoPanic.normal ?_
    obtain ⟨s0, hs0⟩ : ∃ s, blank d b p (badOf (spo b zs (min zn d))) = s := ⟨_, rfl⟩
    rw [hs0] at HN
    have hsP : s0.P = p := by rw [← hs0]; rfl
    have HS0 := hide hs0
    clear hs0
    go_wp2_with fail
    replace HT : Hid (Below w.heap.size w V2.drew) := (unhide HT).drew
    replace HG : Hid (V2.drew.heap[q]? = some (.cells #[.int .i64 (d : Int), .int .i64 (b : Int), .int .i64 (p : Int)] 23 (0, 0))) := unhide HG
    replace HN : Hid (NA w.heap.size V2.drew L s0) := (unhide HN).below ((Below.refl _ _).drew)
    refine wp_region_noPanic ?_
    refine wp_region_held_drew (S := fun W => W.cell? ⟨q, 0, none⟩ = some (.int .i64 (d : Int)) ∧ W.cell? ⟨q, 1, none⟩ = some (.int .i64 (b : Int)) ∧ W.cell? ⟨q, 2, none⟩ = some (.int .i64 (p : Int))) (by kernel_rfl) ?_ (fun hHeld => ?_)
    · exact ⟨cell_blk (unhide HG) rfl, cell_blk (unhide HG) rfl, cell_blk (unhide HG) rfl⟩
    have HH := hide hHeld
    clear hHeld
    generalize V2.drew = V3 at HT HG HH HN ⊢
    refine takeL (i := 0) (v := ?_) rfl (by kernel_rfl) (by kernel_rfl) (by kernel_rfl) (fun _ _ _ h => h) (Or.inl ⟨by rfl, ?_⟩) (unhide HH) ?_
    rotate_left 1
    · intro W1 ⟨s0, s1, s2⟩; go_simp; all_goals (with_reducible rfl)
    (try simp only [Act.put, List.setIfInBounds_toArray, List.set_cons_zero, List.set_cons_succ])
    refine takeL (i := 1) (v := ?_) rfl (by kernel_rfl) (by kernel_rfl) (by kernel_rfl) (fun _ _ _ h => h) (Or.inl ⟨by rfl, ?_⟩) (unhide HH) ?_
    rotate_left 1
    · intro W1 ⟨s0, s1, s2⟩; go_simp; all_goals (with_reducible rfl)
    (try simp only [Act.put, List.setIfInBounds_toArray, List.set_cons_zero, List.set_cons_succ])
    refine takeL (i := 2) (v := ?_) rfl (by kernel_rfl) (by kernel_rfl) (by kernel_rfl) (fun _ _ _ h => h) (Or.inl ⟨by rfl, ?_⟩) (unhide HH) ?_
    rotate_left 1
    · intro W1 ⟨s0, s1, s2⟩; go_simp; all_goals (with_reducible rfl)
    (try simp only [Act.put, List.setIfInBounds_toArray, List.set_cons_zero, List.set_cons_succ])
    refine wpAnyH_ready (rs := [3]) (by kernel_rfl) (by simp) ?_
    refine consL rfl (fun K hK => ?_) AllReadyH.nil
    go_simp
    refine (spoil_any d b p _ _ _ gz zs _ hd8 hb12 hb0 ((unhide HZ).below (unhide HT))).mono ?_
    rintro e V4 ⟨v, rfl, hO, hk⟩
    obtain ⟨ov, cv, hv⟩ := hO.shape
    subst hv
    obtain ⟨gv, hP⟩ := hO.parg
    have HP := hide hP
    replace HT := hide ((unhide HT).trans (hk.mono (unhide HT).size))
    replace HG := hide ((hk.block _ (lt_of_block (unhide HG))).trans (unhide HG))
    replace HN := hide ((unhide HN).below hk)
    clear hk hO hP
    go_wp2_with fail
    refine hK.out _ _ (⟨cell_blk (unhide HG) rfl, cell_blk (unhide HG) rfl, cell_blk (unhide HG) rfl⟩) (fun hHeld => ?_)
    clear hK K HH
    have HH := hide hHeld
    clear hHeld
    (try simp only [Act.put, List.setIfInBounds_toArray, List.set_cons_zero, List.set_cons_succ])
    refine wpAnyH_ready (rs := [4]) (by kernel_rfl) (by simp) ?_
    refine consL rfl (fun K hK => ?_) AllReadyH.nil
    go_simp
    refine (rnew_any d b p _ gv _ _ hok (unhide HP)).mono ?_
    rintro e V5 ⟨hk, ⟨hno, _⟩ | ⟨_, Lr0, rfl, hR⟩⟩
    · exact absurd (unhide HSP) hno
    have HR := hide (hR.sink (unhide HT).size)
    clear hR
    replace HN := hide ((unhide HN).below hk)
    replace HT := hide ((unhide HT).trans (hk.mono (unhide HT).size))
    replace HG := hide ((hk.block _ (lt_of_block (unhide HG))).trans (unhide HG))
    clear hk HP
    go_wp2_with fail
    refine hK.out _ _ (⟨cell_blk (unhide HG) rfl, cell_blk (unhide HG) rfl, cell_blk (unhide HG) rfl⟩) (fun hHeld => ?_)
    clear hK K HH
    have HH := hide hHeld
    clear hHeld
    (try simp only [Act.put, List.setIfInBounds_toArray, List.set_cons_zero, List.set_cons_succ])
    refine takeL (i := 5) (v := ?_) rfl (by kernel_rfl) (by kernel_rfl) (by kernel_rfl) (fun _ _ _ h => h) (Or.inl ⟨by rfl, ?_⟩) (unhide HH) ?_
    rotate_left 1
    · intro W1 ⟨s0, s1, s2⟩; go_simp; all_goals (with_reducible rfl)
    (try simp only [Act.put, List.setIfInBounds_toArray, List.set_cons_zero, List.set_cons_succ])
    refine takeL (i := 6) (v := ?_) rfl (by kernel_rfl) (by kernel_rfl) (by kernel_rfl) (fun _ _ _ h => h) (Or.inl ⟨by rfl, ?_⟩) (unhide HH) ?_
    rotate_left 1
    · intro W1 ⟨s0, s1, s2⟩; go_simp; all_goals (with_reducible rfl)
    (try simp only [Act.put, List.setIfInBounds_toArray, List.set_cons_zero, List.set_cons_succ])
    refine takeL (i := 7) (v := ?_) rfl (by kernel_rfl) (by kernel_rfl) (by kernel_rfl) (fun _ _ _ h => h) (Or.inl ⟨by rfl, ?_⟩) (unhide HH) ?_
    rotate_left 1
    · intro W1 ⟨s0, s1, s2⟩; go_simp; all_goals (with_reducible rfl)
    (try simp only [Act.put, List.setIfInBounds_toArray, List.set_cons_zero, List.set_cons_succ])
    refine takeL (i := 8) (v := ?_) rfl (by kernel_rfl) (by kernel_rfl) (by kernel_rfl) (fun _ _ _ h => h) (Or.inl ⟨by rfl, ?_⟩) (unhide HH) ?_
    rotate_left 1
    · intro W1 ⟨s0, s1, s2⟩; go_simp; all_goals (with_reducible rfl)
    (try simp only [Act.put, List.setIfInBounds_toArray, List.set_cons_zero, List.set_cons_succ])
    refine takeL (i := 9) (v := ?_) rfl (by kernel_rfl) (by kernel_rfl) (by kernel_rfl) (fun _ _ _ h => h) (Or.inl ⟨by rfl, ?_⟩) (unhide HH) ?_
    rotate_left 1
    · intro W1 ⟨s0, s1, s2⟩; go_simp; all_goals (with_reducible rfl)
    (try simp only [Act.put, List.setIfInBounds_toArray, List.set_cons_zero, List.set_cons_succ])
    refine wpAnyH_done (by kernel_rfl) ?_ _
    refine NoPanic.normal ?_
    rw [unhide HS0] at HR
    go_wp2_with fail
    have hn1 : (n : Int) ≤ 9223372036854775807 := by omega
    have hHL : l.length = n := (unhide HA).len.1
    have HLN := hide hHL
    clear hHL
    obtain ⟨N, hN⟩ : ∃ N, L.n = N := ⟨_, rfl⟩
    obtain ⟨N', hN'⟩ : ∃ N, Lr0.n = N := ⟨_, rfl⟩
    rw [hN, hN']
    go_loopw [12] (fun x wr => ∃ (i : Nat) (s : Nd) (L1 : La) (L1' : Lr), x = .int .i64 i ∧ i ≤ n ∧ Hid (L1.n = N) ∧ Hid (L1'.n = N') ∧ Hid (s0.Geo s) ∧ Hid (NA w.heap.size wr L1 s) ∧ Hid (RA w.heap.size wr L1' s) ∧ Hid (Below w.heap.size w wr)) (fun x _ => n - (intOf x).toNat)
    case atStart => exact ⟨0, s0, L, Lr0, rfl, by omega, hide hN, hide hN', Geo.refl _, HN, HR, HT⟩
    case round =>
      clear hN hN' HN HR HT HG
      obtain ⟨i, s, L1, L1', rfl, hi, HLn, HLr, HGe, HN, HR, HT⟩ := hrel
      by_cases hlt : i < n
      · have hi1 : (i : Int) < (n : Int) := by omega
        obtain ⟨o, a, hao, hla, hcs, hok1⟩ := ((unhide HA).below (unhide HT)).at hlt
        subst hao
        have ca0 : wr.cell? ⟨g, o + i * 7, none⟩ = some (.int .i64 a.k) := hcs 0 _ rfl
        have ca1 : wr.cell? ⟨g, o + i * 7 + 1, none⟩ = some (.int .i64 a.d) := hcs 1 _ rfl
        have ca2 : wr.cell? ⟨g, o + i * 7 + 2, none⟩ = some (.int .i64 a.b) := hcs 2 _ rfl
        have ca3 : wr.cell? ⟨g, o + i * 7 + 3, none⟩ = some (.int .i64 a.p) := hcs 3 _ rfl
        have ca4 : wr.cell? ⟨g, o + i * 7 + 4, none⟩ = some (.int .i64 a.n) := hcs 4 _ rfl
        have ca5 : wr.cell? ⟨g, o + i * 7 + 5, none⟩ = some (.slice a.bo a.bn a.bc) := hcs 5 _ rfl
        have ca6 : wr.cell? ⟨g, o + i * 7 + 6, none⟩ = some (.slice a.lo a.ln a.lc) := hcs 6 _ rfl
        obtain ⟨hx1, hx2, hx3, hx4⟩ := unhide HX i a hla
        have HDO := hide (do_any (unhide HN) (unhide HR) hok1 hx3 hx4 hx1 hx2 (by rw [(unhide HGe).2.2]; omega))
        rw [unhide HLn, unhide HLr] at HDO
        clear hla hcs hok1 hx1 hx2 hx3 hx4
        go_wp2_with fail
        clear ca0 ca1 ca2 ca3 ca4 ca5 ca6
        refine (unhide HDO).mono ?_
        rintro e V6 ⟨rfl, L2, L2', s2, hL, hL', hG2, hN2, hR2, hB2⟩
        replace HLn := hide hL
        replace HLr := hide hL'
        replace HGe := hide (Geo.trans (unhide HGe) hG2)
        replace HT := hide ((unhide HT).trans hB2)
        replace HN := hide hN2
        replace HR := hide hR2
        have HSA := hide (same_any (unhide HN) (unhide HR))
        rw [unhide HLn, unhide HLr] at HSA
        clear HDO hL hL' hG2 hN2 hR2 hB2
        go_wp2_with fail
        refine (unhide HSA).mono ?_
        rintro e V7 ⟨rfl, hk⟩
        replace HN := hide ((unhide HN).below hk)
        replace HR := hide ((unhide HR).below hk)
        replace HT := hide ((unhide HT).trans (hk.mono (unhide HT).size))
        clear HSA hk
        go_wp2_with fail
        go_roundw
        case rel => exact ⟨i + 1, s2, L2, L2', by go_num, by omega, HLn, HLr, HGe, HN, HR, HT⟩
        case measure => simp [intOf]; omega
      · have hi1 : (n : Int) ≤ (i : Int) := by omega
        have HP0 := hide (power_any (unhide HN))
        rw [unhide HLn] at HP0
        go_wp2_with fail
        refine (unhide HP0).mono ?_
        rintro e V6 ⟨⟨r, rfl⟩, ⟨L2, hL, hM⟩, hK1⟩
        replace HLn := hide hL
        replace HN := hide hM
        replace HR := hide ((unhide HR).kn hK1)
        replace HT := hide ((unhide HT).trans hK1.below)
        have HP1 := hide (rpower_any (unhide HR))
        rw [unhide HLr] at HP1
        clear HP0 hL hM hK1
        go_wp2_with fail
        refine (unhide HP1).mono ?_
        rintro e V7 ⟨⟨r, rfl⟩, hM, hK1⟩
        replace HR := hide hM
        replace HN := hide ((unhide HN).kr hK1)
        replace HT := hide ((unhide HT).trans hK1.below)
        have HP2 := hide (pages_any (unhide HN) (unhide HR))
        rw [unhide HLn, unhide HLr] at HP2
        clear HP1 hM hK1
        go_wp2_with fail
        refine (unhide HP2).mono ?_
        rintro e V8 ⟨rfl, ⟨s3, _, hN3, hR3⟩, hB3⟩
        replace HN := hide hN3
        replace HR := hide hR3
        replace HT := hide ((unhide HT).trans hB3)
        have HSA := hide (same_any (unhide HN) (unhide HR))
        rw [unhide HLn, unhide HLr] at HSA
        clear HP2 hN3 hR3 hB3
        go_wp2_with fail
        refine (unhide HSA).mono ?_
        rintro e V9 ⟨rfl, hk⟩
        replace HT := hide ((unhide HT).trans (hk.mono (unhide HT).size))
        clear HSA hk
        go_wp2_with fail
        go_returns
        exact ⟨rfl, unhide HT⟩

end Go.Proofs.Ytnondiaefpdlpaa
