/-
  The second telling of nand: Stop, Noise, Read.
-/
import Derived.Test.YtnondiaefpdlpaaU7e
import Derived.Test.YtnondiaefpdlpaaR6b
namespace Go.Proofs.Ytnondiaefpdlpaa
open Go.RowKit Go.Shelf

theorem max_two (t : TypeId) (ts : Array TypeId) (x y : Int) (w : World) : (Builtin.max_ ts t #[.int .i64 x, .int .i64 y]).run Try.prog w = .ok (.int .i64 (max x y)) w := by
  unfold Builtin.max_
  simp only [List.foldlM_cons, List.foldlM_nil, Builtin.max2]
  by_cases h1 : x < y
  · simp [h1, Sem.run_pure]; omega
  · simp [h1, Sem.run_pure]; omega
theorem Arg.nil_imp {w : World} {ao : Option Addr} {n c g : Nat} {s : List Nat} (h : Arg w (.slice ao n c) g s) : s.length = n ∧ (ao = none → n = 0 ∧ c = 0) ∧ Row w ao g (ints s) := by
  obtain ⟨⟨ao', c', h1, h2, h3, h4, h5⟩, hb⟩ := h
  cases h1
  refine ⟨rfl, fun e => ?_, h5⟩
  have := h4 e
  omega
theorem ZArg.nil_imp {w : World} {ao : Option Addr} {n c g : Nat} {s : List Int} (h : ZArg w (.slice ao n c) g s) : s.length = n ∧ (ao = none → n = 0 ∧ c = 0) ∧ IRow w ao g s := by
  obtain ⟨⟨ao', c', h1, h2, h3, h4, h5⟩, hb⟩ := h
  cases h1
  refine ⟨rfl, fun e => ?_, h5⟩
  have := h4 e
  omega

set_option maxRecDepth 100000 in
set_option maxHeartbeats 4000000 in
theorem rstop_any {m : Nat} {w : World} {L : Lr} {s : Nd} (h : RA m w L s) (k : Int) (hk : k ≤ 9223372036854775807) (ao : Option Addr) (n c g : Nat) (mask : List Nat) (hA : Arg w (.slice ao n c) g mask) (hn : n ≤ 1000) :
    Calls Try.prog 43 #[.pointer (some ⟨L.n, 0, none⟩), .int .i64 k, .slice ao n c] w fun e w' => (∃ v, e = .returned v) ∧ (∃ L', L'.n = L.n ∧ RA m w' L' { s with left := k.toNat, mask }) ∧ Kr m w w' := by
  obtain ⟨K, hKK⟩ : ∃ K, k.toNat = K := ⟨_, rfl⟩
  have hKb : K ≤ 9223372036854775807 := by omega
  rw [hKK]
  have hmax : ∀ W : World, (Builtin.max_ #[3, 3] 3 #[.int .i64 k, .int .i64 0]).run Try.prog W = .ok (.int .i64 (K : Int)) W := fun W => by rw [max_two, show max k 0 = (K : Int) from by omega]
  obtain ⟨i0, hi, hz0, hz1, hz2⟩ := info_parts infoE
  have HI := hide hi
  have hk : Below w.heap.size w (w.alloc (.cells #[] 5)) := (Below.refl _ _).alloc (Nat.le_refl _) _
  have HK := hide hk
  have HO := hide (own_none w 5)
  clear hKK
  have HN := hide h
  have HA := hide hA
  clear h hA hk
  go_enter Try.func43, Try.ntmps43
  go_wp2_with (at_builtin; refine wpList_append_row _ rfl _ _ 38 rfl w.heap.size 5 i0 Try.underlying38 (unhide HI) hz0 hz1 hz2 (.slice (some ⟨w.heap.size, 0, none⟩) 0 0) 0 [] rfl (unhide HO) ao g n c (ints mask) rfl (by rw [ints_len]; exact (unhide HA).nil_imp.1) ((unhide HA).below (unhide HK)).nil_imp.2.2 (unhide HA).nil_imp.2.1 (by omega) (unhide HK).size ?_)
  intro v1 w1 hO1 hg1 _
  have hb1 : Below w.heap.size w w1 := below_grown (unhide HK) hg1 (unhide HK).size (fun k hk => by cases hk; exact Nat.le_refl _)
  have hF := own_fr (s := mask) (unhide HA).nil_imp.1.symm hO1
  have hN1 := (unhide HN).below hb1
  have c5 : w1.cell? ⟨L.n, 5, none⟩ = some (.int .i64 (s.left : Int)) := hN1.tc 5 rfl
  have f5 := hN1.tf 5
  have hs := hN1.setLeft K hKb
  have c6 : (w1.setCell ⟨L.n, 5, none⟩ (.int .i64 (K : Int))).cell? ⟨L.n, 6, none⟩ = some L.mv := hs.1.tc 6 rfl
  have f6 := hs.1.tf 6
  have hF2 : Fr 0 (w1.setCell ⟨L.n, 5, none⟩ (.int .i64 (K : Int))) v1 mask := hF.low.lie hs.2.lie (by decide)
  have hs2 := hs.1.setMask v1 mask ⟨hF2, (unhide HA).bs⟩
  have HS := hide hs2.1
  have HKR := hide (((Kr.of_below hb1 (Nat.le_of_lt (unhide HN).n_lt)).trans hs.2).trans hs2.2)
  obtain ⟨o1, n1, c1, rfl⟩ : ∃ o n c, v1 = .slice o n c := by
    rcases hF with ⟨_, h⟩ | ⟨g, c, h, _⟩
    · exact ⟨_, _, _, h⟩
    · exact ⟨_, _, _, h⟩
  clear hs hs2 hF hF2 hN1 hb1 hO1 hg1
  go_wp2_with fail
  go_end0
  exact ⟨⟨_, rfl⟩, ⟨{ L with mv := .slice o1 n1 c1 }, rfl, unhide HS⟩, unhide HKR⟩

set_option maxRecDepth 100000 in
set_option maxHeartbeats 4000000 in
theorem rnoise_bad {m : Nat} {w : World} {L : Lr} {s : Nd} (h : RA m w L s) (d b p : Int) (v : Value) (hbad : ¬ (s.There d b ∧ 0 ≤ p ∧ p < (s.P : Int))) :
    Calls Try.prog 42 #[.pointer (some ⟨L.n, 0, none⟩), .int .i64 d, .int .i64 b, .int .i64 p, v] w fun e w' => e = .returned (.int .i64 1) ∧ w' = w := by
  have c2 : w.cell? ⟨L.n, 2, none⟩ = some (.int .i64 (s.P : Int)) := h.tc 2 rfl
  have HN := hide h
  clear h
  by_cases h1 : s.There d b
  · have HT := hide (decide_eq_true h1)
    by_cases hp : p < 0
    · clear hbad
      go_enter Try.func42, Try.ntmps42
      go_wp2_with fail
      refine (there_any (unhide HN) _ _).mono ?_
      rintro e w ⟨rfl, rfl⟩
      rw [unhide HT]
      go_wp2_with fail
      go_returns
      exact ⟨rfl, rfl⟩
    · have hpP : (s.P : Int) ≤ p := by
        by_cases e : p < (s.P : Int)
        · exact absurd ⟨h1, by omega, e⟩ hbad
        · omega
      clear hbad
      go_enter Try.func42, Try.ntmps42
      go_wp2_with fail
      refine (there_any (unhide HN) _ _).mono ?_
      rintro e w ⟨rfl, rfl⟩
      rw [unhide HT]
      go_wp2_with fail
      go_returns
      exact ⟨rfl, rfl⟩
  · have HT := hide (decide_eq_false h1)
    clear hbad
    go_enter Try.func42, Try.ntmps42
    go_wp2_with fail
    refine (there_any (unhide HN) _ _).mono ?_
    rintro e w ⟨rfl, rfl⟩
    rw [unhide HT]
    go_wp2_with fail
    go_returns
    exact ⟨rfl, rfl⟩

set_option maxRecDepth 100000 in
set_option maxHeartbeats 8000000 in
theorem rnoise_good {m : Nat} {w : World} {L : Lr} {s : Nd} (h : RA m w L s) {d b p : Nat} (hd : d < s.D) (hb : b < s.B) (hp : p < s.P) (ao : Option Addr) (n c gl : Nat) (zs : List Int) (hZ : ZArg w (.slice ao n c) gl zs) (hn : n ≤ 1000) :
    Calls Try.prog 42 #[.pointer (some ⟨L.n, 0, none⟩), .int .i64 (d : Int), .int .i64 (b : Int), .int .i64 (p : Int), .slice ao n c] w fun e w' => e = .returned (.int .i64 0) ∧ (∃ L', L'.n = L.n ∧ RA m w' L' { s with noise := put3 s.noise d b p zs }) ∧ Kr m w w' := by
  have c2 : w.cell? ⟨L.n, 2, none⟩ = some (.int .i64 (s.P : Int)) := h.tc 2 rfl
  have HN := hide h
  have HT := hide (decide_eq_true (There.nat hd hb))
  have hd1 : (d : Int) < (s.D : Int) := by omega
  have hb1 : (b : Int) < (s.B : Int) := by omega
  have hp1 : (p : Int) < (s.P : Int) := by omega
  have HZ := hide hZ
  clear h hZ
  go_enter Try.func42, Try.ntmps42
  go_wp2_with fail
  refine (there_any (unhide HN) _ _).mono ?_
  rintro e w ⟨rfl, rfl⟩
  rw [unhide HT]
  go_wp2_with fail
  clear c2
  have HND : Hid (RA m w.drew L s) := (unhide HN).lie (fun _ _ _ _ _ h => h)
  have HZD : Hid (ZArg w.drew (.slice ao n c) gl zs) := (unhide HZ).below ((Below.refl _ _).drew)
  refine wp_region_noPanic ?_
  refine wp_region_held_drew (S := fun W => W.cell? ⟨L.n, 4, none⟩ = some (.slice (some ⟨L.gl, 0, none⟩) s.D L.xl) ∧ W.cell? ⟨L.gl, d, none⟩ = some (.slice (some ⟨L.ls d, 0, none⟩) s.B (L.cl d)) ∧ W.cell? ⟨L.ls d, b, none⟩ = some (.slice (some ⟨L.ns d b, 0, none⟩) s.P s.P)) (by kernel_rfl) ?_ (fun hHeld => ?_)
  · exact ⟨(unhide HND).tc 4 rfl, (unhide HND).rl.cell hd, (unhide HND).lk d hd |>.cell hb⟩
  have HH := hide hHeld
  clear hHeld
  have HK0 : Hid (Kr m w w.drew) := (Kr.refl _ _).drew
  generalize w.drew = W2 at HND HZD HK0 HH ⊢
  clear HN HZ
  refine takeL (i := 0) (v := ?_) rfl (by kernel_rfl) (by kernel_rfl) (by kernel_rfl) (fun _ _ _ h => h) (Or.inl ⟨by rfl, ?_⟩) (unhide HH) ?_
  rotate_left 1
  · intro W ⟨s1, s2, s3⟩; go_simp; all_goals (with_reducible rfl)
  (try simp only [Act.put, List.setIfInBounds_toArray, List.set_cons_zero, List.set_cons_succ])
  refine takeL (i := 1) (v := ?_) rfl (by kernel_rfl) (by kernel_rfl) (by kernel_rfl) (fun _ _ _ h => h) (Or.inl ⟨by rfl, ?_⟩) (unhide HH) ?_
  rotate_left 1
  · intro W ⟨s1, s2, s3⟩; go_simp; all_goals (with_reducible rfl)
  (try simp only [Act.put, List.setIfInBounds_toArray, List.set_cons_zero, List.set_cons_succ])
  refine takeL (i := 2) (v := ?_) rfl (by kernel_rfl) (by kernel_rfl) (by kernel_rfl) (fun _ _ _ h => h) (Or.inl ⟨by rfl, ?_⟩) (unhide HH) ?_
  rotate_left 1
  · intro W ⟨s1, s2, s3⟩; go_simp; all_goals (with_reducible rfl)
  (try simp only [Act.put, List.setIfInBounds_toArray, List.set_cons_zero, List.set_cons_succ])
  refine takeL (i := 3) (v := ?_) rfl (by kernel_rfl) (by kernel_rfl) (by kernel_rfl) (fun _ _ _ h => h) (Or.inl ⟨by rfl, ?_⟩) (unhide HH) ?_
  rotate_left 1
  · intro W ⟨s1, s2, s3⟩; go_simp; all_goals (with_reducible rfl)
  (try simp only [Act.put, List.setIfInBounds_toArray, List.set_cons_zero, List.set_cons_succ])
  refine takeL (i := 4) (v := ?_) rfl (by kernel_rfl) (by kernel_rfl) (by kernel_rfl) (fun _ _ _ h => h) (Or.inl ⟨by rfl, ?_⟩) (unhide HH) ?_
  rotate_left 1
  · intro W ⟨s1, s2, s3⟩; go_simp; all_goals (with_reducible rfl)
  (try simp only [Act.put, List.setIfInBounds_toArray, List.set_cons_zero, List.set_cons_succ])
  refine takeL (i := 5) (v := ?_) rfl (by kernel_rfl) (by kernel_rfl) (by kernel_rfl) (fun _ _ _ h => h) (Or.inl ⟨by rfl, ?_⟩) (unhide HH) ?_
  rotate_left 1
  · intro W ⟨s1, s2, s3⟩; go_simp; all_goals (with_reducible rfl)
  (try simp only [Act.put, List.setIfInBounds_toArray, List.set_cons_zero, List.set_cons_succ])
  refine takeL (i := 6) (v := ?_) rfl (by kernel_rfl) (by kernel_rfl) (by kernel_rfl) (fun _ _ _ h => h) (Or.inl ⟨by rfl, ?_⟩) (unhide HH) ?_
  rotate_left 1
  · intro W ⟨s1, s2, s3⟩; go_simp; all_goals (with_reducible rfl)
  (try simp only [Act.put, List.setIfInBounds_toArray, List.set_cons_zero, List.set_cons_succ])
  refine takeL (i := 7) (v := ?_) rfl (by kernel_rfl) (by kernel_rfl) (by kernel_rfl) (fun _ _ _ h => h) (Or.inl ⟨by rfl, ?_⟩) (unhide HH) ?_
  rotate_left 1
  · intro W ⟨s1, s2, s3⟩; go_simp; all_goals (with_reducible rfl)
  (try simp only [Act.put, List.setIfInBounds_toArray, List.set_cons_zero, List.set_cons_succ])
  refine takeL (i := 8) (v := ?_) rfl (by kernel_rfl) (by kernel_rfl) (by kernel_rfl) (fun _ _ _ h => h) (Or.inl ⟨by rfl, ?_⟩) (unhide HH) ?_
  rotate_left 1
  · intro W ⟨s1, s2, s3⟩; go_simp; all_goals (with_reducible rfl)
  (try simp only [Act.put, List.setIfInBounds_toArray, List.set_cons_zero, List.set_cons_succ])
  refine takeL (i := 9) (v := ?_) rfl (by kernel_rfl) (by kernel_rfl) (by kernel_rfl) (fun _ _ _ h => h) (Or.inl ⟨by rfl, ?_⟩) (unhide HH) ?_
  rotate_left 1
  · intro W ⟨s1, s2, s3⟩; go_simp; all_goals (with_reducible rfl)
  (try simp only [Act.put, List.setIfInBounds_toArray, List.set_cons_zero, List.set_cons_succ])
  refine takeL (i := 10) (v := ?_) rfl (by kernel_rfl) (by kernel_rfl) (by kernel_rfl) (fun _ _ _ h => h) (Or.inl ⟨by rfl, ?_⟩) (unhide HH) ?_
  rotate_left 1
  · intro W ⟨s1, s2, s3⟩; go_simp; all_goals (with_reducible rfl)
  (try simp only [Act.put, List.setIfInBounds_toArray, List.set_cons_zero, List.set_cons_succ])
  refine takeL (i := 12) (v := ?_) rfl (by kernel_rfl) (by kernel_rfl) (by kernel_rfl) (fun _ _ _ h => h) (Or.inl ⟨by rfl, ?_⟩) (unhide HH) ?_
  rotate_left 1
  · intro W ⟨s1, s2, s3⟩; go_simp; all_goals (with_reducible rfl)
  (try simp only [Act.put, List.setIfInBounds_toArray, List.set_cons_zero, List.set_cons_succ])
  refine wpAnyH_ready (rs := [11]) (by kernel_rfl) (by simp) ?_
  refine consL rfl (fun K hK => ?_) AllReadyH.nil
  go_simp
  have hk : Below W2.heap.size W2 (W2.alloc (.cells #[] 3)) := (Below.refl _ _).alloc (Nat.le_refl _) _
  have hO := OwnZ.none W2
  have hN3 := (unhide HND).below hk
  refine hK.out _ _ (⟨(hN3).tc 4 rfl, (hN3).rl.cell hd, (hN3).lk d hd |>.cell hb⟩) (fun hHeld => ?_)
  clear hK K HH
  have HH := hide hHeld
  clear hHeld
  (try simp only [Act.put, List.setIfInBounds_toArray, List.set_cons_zero, List.set_cons_succ])
  have HO := hide hO
  have HK3 := hide hk
  clear hk hO hN3
  refine wpAnyH_ready (rs := [13]) (by kernel_rfl) (by simp) ?_
  refine consL rfl (fun K hK => ?_) AllReadyH.nil
  rw [if_pos (by rfl)]
  refine wp_append_z (.tmp 40) (.tmp 41) (by rfl) W2.heap.size _ [] zs (by rfl) (unhide HO) ao gl n c (by rfl) (unhide HZD).nil_imp.1 ((unhide HZD).below (unhide HK3)).nil_imp.2.2 (unhide HZD).nil_imp.2.1 (by simp; omega) (unhide HK3).size ?_
  intro v4 W4 hO4 hg4
  rw [List.nil_append] at hO4
  have hb4 : Below W2.heap.size W2 W4 := below_grown (unhide HK3) hg4 (unhide HK3).size (fun k hk => by cases hk; exact Nat.le_refl _)
  have hN4 := (unhide HND).below hb4
  have hF4 := own_frz hO4
  obtain ⟨o4, n4, c4, rfl⟩ := hF4.shape
  refine hK.out _ _ (⟨(hN4).tc 4 rfl, (hN4).rl.cell hd, (hN4).lk d hd |>.cell hb⟩) (fun hHeld => ?_)
  clear hK K HH
  have HH := hide hHeld
  clear hHeld
  (try simp only [Act.put, List.setIfInBounds_toArray, List.set_cons_zero, List.set_cons_succ])
  have hs := hN4.setN hd hb hp _ zs hF4 (unhide HZD).bd
  have HN4 := hide hN4
  have HS := hide hs.1
  have HKR := hide (((unhide HK0).trans (Kr.of_below hb4 (Nat.le_of_lt (unhide HND).n_lt))).trans hs.2)
  clear hs hN4 hF4 hO4 hg4 hb4 HO HK3 HND HZD HK0
  refine takeL (i := 14) (v := ?_) rfl (by kernel_rfl) (by kernel_rfl) (by kernel_rfl) (fun _ _ _ h => h) (Or.inl ⟨by rfl, ?_⟩) (unhide HH) ?_
  rotate_left 1
  · intro W ⟨s1, s2, s3⟩; go_simp; all_goals (with_reducible rfl)
  (try simp only [Act.put, List.setIfInBounds_toArray, List.set_cons_zero, List.set_cons_succ])
  refine wpAnyH_ready (rs := [15]) (by kernel_rfl) (by simp) ?_
  refine consL rfl (fun K hK => ?_) AllReadyH.nil
  have hcc := ((unhide HN4).ng d b hd hb).cell hp
  have hff := ((unhide HN4).ng d b hd hb).free p
  go_simp
  clear hcc hff
  refine hK.out _ _ (⟨(unhide HS).tc 4 rfl, (unhide HS).rl.cell hd, (unhide HS).lk d hd |>.cell hb⟩) (fun hHeld => ?_)
  clear hK K HH
  have HH := hide hHeld
  clear hHeld
  (try simp only [Act.put, List.setIfInBounds_toArray, List.set_cons_zero, List.set_cons_succ])
  refine wpAnyH_done (by kernel_rfl) ?_ _
  refine NoPanic.normal ?_
  go_wp2_with fail
  go_returns
  exact ⟨rfl, ⟨{ L with nv := put3 L.nv d b p (.slice o4 n4 c4) }, rfl, unhide HS⟩, unhide HKR⟩

set_option maxRecDepth 100000 in
set_option maxHeartbeats 4000000 in
theorem rread_dead {m : Nat} {w : World} {L : Lr} {s : Nd} (h : RA m w L s) (hd : s.dead = true) (d b p : Int) :
    Calls Try.prog 40 #[.pointer (some ⟨L.n, 0, none⟩), .int .i64 d, .int .i64 b, .int .i64 p] w fun e w' => e = .returned (.tuple #[.slice none 0 0, .int .i64 8]) ∧ w' = w := by
  have HN := hide h
  clear h
  go_enter Try.func40, Try.ntmps40
  go_wp2_with fail
  refine (may_dead (unhide HN) hd _ _ _ _).mono ?_
  rintro e w ⟨rfl, rfl⟩
  go_wp2_with fail
  go_returns
  exact ⟨rfl, rfl⟩

set_option maxRecDepth 100000 in
set_option maxHeartbeats 4000000 in
theorem rread_bad {m : Nat} {w : World} {L : Lr} {s : Nd} (h : RA m w L s) (hd : s.dead = false) (d b p : Int) (hbad : ¬ s.Good d b p) :
    Calls Try.prog 40 #[.pointer (some ⟨L.n, 0, none⟩), .int .i64 d, .int .i64 b, .int .i64 p] w fun e w' => e = .returned (.tuple #[.slice none 0 0, .int .i64 1]) ∧ RA m w' L { s with wrong := inc s.wrong } ∧ Kr m w w' := by
  have HN := hide h
  have HB := hide hbad
  clear h hbad
  go_enter Try.func40, Try.ntmps40
  go_wp2_with fail
  refine (may_bad (unhide HN) hd _ _ _ _ (fun h => unhide HB h.1)).mono ?_
  rintro e w2 ⟨rfl, hN2, hK2⟩
  have HN2 := hide hN2
  have HK2 := hide hK2
  clear hN2 hK2
  go_wp2_with fail
  go_returns
  exact ⟨rfl, unhide HN2, unhide HK2⟩

set_option maxRecDepth 100000 in
set_option maxHeartbeats 8000000 in
theorem rread_good {m : Nat} {w : World} {L : Lr} {s : Nd} (h : RA m w L s) (hdd : s.dead = false) {d b p : Nat} (hd : d < s.D) (hb : b < s.B) (hbad : s.bad d b = false) (hp : p < s.P) :
    Calls Try.prog 40 #[.pointer (some ⟨L.n, 0, none⟩), .int .i64 (d : Int), .int .i64 (b : Int), .int .i64 (p : Int)] w fun e w' => ∃ v, e = .returned (.tuple #[v, .int .i64 0]) ∧ Fr 0 w' v (flipZ (s.held d b p) (s.noise d b p)) ∧ RA m w' L { s with ops := inc s.ops } ∧ Kr m w w' := by
  have HN := hide h
  have hd1 : (d : Int) < (s.D : Int) := by omega
  have hb1 : (b : Int) < (s.B : Int) := by omega
  have hp1 : (p : Int) < (s.P : Int) := by omega
  obtain ⟨oh, ch, hhv⟩ : ∃ o c, L.hv d b p = .slice o 60 c := by
    obtain ⟨o, c, e⟩ := (h.hold d b p hd hb hp).shape
    exact ⟨o, c, by rw [e, h.ok.len]⟩
  obtain ⟨on, nn, cn, hnv⟩ := (h.nois d b p hd hb hp).1.shape
  have HHV := hide hhv
  have HNV := hide hnv
  have c8 : w.cell? ⟨L.n, 8, none⟩ = some (.int .i64 s.ops) := h.tc 8 rfl
  have f8 := h.tf 8
  have hs := h.setOps (inc s.ops)
  have HS := hide hs.1
  have HKS := hide hs.2
  clear hs h hhv hnv
  go_enter Try.func40, Try.ntmps40
  go_wp2_with fail
  refine (may_ok (unhide HN) hdd hd hb hbad hp).mono ?_
  rintro e w ⟨rfl, rfl⟩
  go_wp2_with fail
  clear c8 f8
  have HND : Hid (RA m (w.setCell ⟨L.n, 8, none⟩ (.int .i64 (wrap64 (s.ops + 1)))).drew L { s with ops := inc s.ops }) := (unhide HS).lie (fun _ _ _ _ _ h => h)
  have HK0 : Hid (Kr m w (w.setCell ⟨L.n, 8, none⟩ (.int .i64 (wrap64 (s.ops + 1)))).drew) := (unhide HKS).drew
  refine wp_region_noPanic ?_
  refine wp_region_held_drew (S := fun W => (W.cell? ⟨L.n, 3, none⟩ = some (.slice (some ⟨L.gb, 0, none⟩) s.D L.xb) ∧ W.cell? ⟨L.gb, d, none⟩ = some (.slice (some ⟨L.bs d, 0, none⟩) s.B (L.cb d)) ∧ W.cell? ⟨L.bs d, b * 4, none⟩ = some (.slice (some ⟨L.ps d b, 0, none⟩) s.P (L.cp d b)) ∧ W.cell? ⟨L.ps d b, p, none⟩ = some (.slice oh 60 ch)) ∧ W.cell? ⟨L.n, 4, none⟩ = some (.slice (some ⟨L.gl, 0, none⟩) s.D L.xl) ∧ W.cell? ⟨L.gl, d, none⟩ = some (.slice (some ⟨L.ls d, 0, none⟩) s.B (L.cl d)) ∧ W.cell? ⟨L.ls d, b, none⟩ = some (.slice (some ⟨L.ns d b, 0, none⟩) s.P s.P) ∧ W.cell? ⟨L.ns d b, p, none⟩ = some (.slice on nn cn)) (by kernel_rfl) ?_ (fun hHeld => ?_)
  · exact ⟨⟨(unhide HND).tc 3 rfl, (unhide HND).rb.cell hd, (unhide HND).bc (j := 0) hd hb (by omega), ((unhide HND).pg d b hd hb |>.cell hp).trans (congrArg some (unhide HHV))⟩, (unhide HND).tc 4 rfl, (unhide HND).rl.cell hd, (unhide HND).lk d hd |>.cell hb, ((unhide HND).ng d b hd hb |>.cell hp).trans (congrArg some (unhide HNV))⟩
  have HH := hide hHeld
  clear hHeld
  generalize (w.setCell ⟨L.n, 8, none⟩ (.int .i64 (wrap64 (s.ops + 1)))).drew = W2 at HND HK0 HH ⊢
  clear HS HKS HN
  refine takeL (i := 0) (v := ?_) rfl (by kernel_rfl) (by kernel_rfl) (by kernel_rfl) (fun _ _ _ h => h) (Or.inl ⟨by rfl, ?_⟩) (unhide HH) ?_
  rotate_left 1
  · intro W ⟨⟨s1, s2, s3, s4⟩, s5, s6, s7, s8⟩; go_simp; all_goals (with_reducible rfl)
  (try simp only [Act.put, List.setIfInBounds_toArray, List.set_cons_zero, List.set_cons_succ])
  refine takeL (i := 1) (v := ?_) rfl (by kernel_rfl) (by kernel_rfl) (by kernel_rfl) (fun _ _ _ h => h) (Or.inl ⟨by rfl, ?_⟩) (unhide HH) ?_
  rotate_left 1
  · intro W ⟨⟨s1, s2, s3, s4⟩, s5, s6, s7, s8⟩; go_simp; all_goals (with_reducible rfl)
  (try simp only [Act.put, List.setIfInBounds_toArray, List.set_cons_zero, List.set_cons_succ])
  refine takeL (i := 2) (v := ?_) rfl (by kernel_rfl) (by kernel_rfl) (by kernel_rfl) (fun _ _ _ h => h) (Or.inl ⟨by rfl, ?_⟩) (unhide HH) ?_
  rotate_left 1
  · intro W ⟨⟨s1, s2, s3, s4⟩, s5, s6, s7, s8⟩; go_simp; all_goals (with_reducible rfl)
  (try simp only [Act.put, List.setIfInBounds_toArray, List.set_cons_zero, List.set_cons_succ])
  refine takeL (i := 3) (v := ?_) rfl (by kernel_rfl) (by kernel_rfl) (by kernel_rfl) (fun _ _ _ h => h) (Or.inl ⟨by rfl, ?_⟩) (unhide HH) ?_
  rotate_left 1
  · intro W ⟨⟨s1, s2, s3, s4⟩, s5, s6, s7, s8⟩; go_simp; all_goals (with_reducible rfl)
  (try simp only [Act.put, List.setIfInBounds_toArray, List.set_cons_zero, List.set_cons_succ])
  refine takeL (i := 4) (v := ?_) rfl (by kernel_rfl) (by kernel_rfl) (by kernel_rfl) (fun _ _ _ h => h) (Or.inl ⟨by rfl, ?_⟩) (unhide HH) ?_
  rotate_left 1
  · intro W ⟨⟨s1, s2, s3, s4⟩, s5, s6, s7, s8⟩; go_simp; all_goals (with_reducible rfl)
  (try simp only [Act.put, List.setIfInBounds_toArray, List.set_cons_zero, List.set_cons_succ])
  refine takeL (i := 5) (v := ?_) rfl (by kernel_rfl) (by kernel_rfl) (by kernel_rfl) (fun _ _ _ h => h) (Or.inl ⟨by rfl, ?_⟩) (unhide HH) ?_
  rotate_left 1
  · intro W ⟨⟨s1, s2, s3, s4⟩, s5, s6, s7, s8⟩; go_simp; all_goals (with_reducible rfl)
  (try simp only [Act.put, List.setIfInBounds_toArray, List.set_cons_zero, List.set_cons_succ])
  refine takeL (i := 6) (v := ?_) rfl (by kernel_rfl) (by kernel_rfl) (by kernel_rfl) (fun _ _ _ h => h) (Or.inl ⟨by rfl, ?_⟩) (unhide HH) ?_
  rotate_left 1
  · intro W ⟨⟨s1, s2, s3, s4⟩, s5, s6, s7, s8⟩; go_simp; all_goals (with_reducible rfl)
  (try simp only [Act.put, List.setIfInBounds_toArray, List.set_cons_zero, List.set_cons_succ])
  refine takeL (i := 7) (v := ?_) rfl (by kernel_rfl) (by kernel_rfl) (by kernel_rfl) (fun _ _ _ h => h) (Or.inl ⟨by rfl, ?_⟩) (unhide HH) ?_
  rotate_left 1
  · intro W ⟨⟨s1, s2, s3, s4⟩, s5, s6, s7, s8⟩; go_simp; all_goals (with_reducible rfl)
  (try simp only [Act.put, List.setIfInBounds_toArray, List.set_cons_zero, List.set_cons_succ])
  refine takeL (i := 8) (v := ?_) rfl (by kernel_rfl) (by kernel_rfl) (by kernel_rfl) (fun _ _ _ h => h) (Or.inl ⟨by rfl, ?_⟩) (unhide HH) ?_
  rotate_left 1
  · intro W ⟨⟨s1, s2, s3, s4⟩, s5, s6, s7, s8⟩; go_simp; all_goals (with_reducible rfl)
  (try simp only [Act.put, List.setIfInBounds_toArray, List.set_cons_zero, List.set_cons_succ])
  refine takeL (i := 9) (v := ?_) rfl (by kernel_rfl) (by kernel_rfl) (by kernel_rfl) (fun _ _ _ h => h) (Or.inl ⟨by rfl, ?_⟩) (unhide HH) ?_
  rotate_left 1
  · intro W ⟨⟨s1, s2, s3, s4⟩, s5, s6, s7, s8⟩; go_simp; all_goals (with_reducible rfl)
  (try simp only [Act.put, List.setIfInBounds_toArray, List.set_cons_zero, List.set_cons_succ])
  refine takeL (i := 10) (v := ?_) rfl (by kernel_rfl) (by kernel_rfl) (by kernel_rfl) (fun _ _ _ h => h) (Or.inl ⟨by rfl, ?_⟩) (unhide HH) ?_
  rotate_left 1
  · intro W ⟨⟨s1, s2, s3, s4⟩, s5, s6, s7, s8⟩; go_simp; all_goals (with_reducible rfl)
  (try simp only [Act.put, List.setIfInBounds_toArray, List.set_cons_zero, List.set_cons_succ])
  refine takeL (i := 11) (v := ?_) rfl (by kernel_rfl) (by kernel_rfl) (by kernel_rfl) (fun _ _ _ h => h) (Or.inl ⟨by rfl, ?_⟩) (unhide HH) ?_
  rotate_left 1
  · intro W ⟨⟨s1, s2, s3, s4⟩, s5, s6, s7, s8⟩; go_simp; all_goals (with_reducible rfl)
  (try simp only [Act.put, List.setIfInBounds_toArray, List.set_cons_zero, List.set_cons_succ])
  refine takeL (i := 12) (v := ?_) rfl (by kernel_rfl) (by kernel_rfl) (by kernel_rfl) (fun _ _ _ h => h) (Or.inl ⟨by rfl, ?_⟩) (unhide HH) ?_
  rotate_left 1
  · intro W ⟨⟨s1, s2, s3, s4⟩, s5, s6, s7, s8⟩; go_simp; all_goals (with_reducible rfl)
  (try simp only [Act.put, List.setIfInBounds_toArray, List.set_cons_zero, List.set_cons_succ])
  refine takeL (i := 13) (v := ?_) rfl (by kernel_rfl) (by kernel_rfl) (by kernel_rfl) (fun _ _ _ h => h) (Or.inl ⟨by rfl, ?_⟩) (unhide HH) ?_
  rotate_left 1
  · intro W ⟨⟨s1, s2, s3, s4⟩, s5, s6, s7, s8⟩; go_simp; all_goals (with_reducible rfl)
  (try simp only [Act.put, List.setIfInBounds_toArray, List.set_cons_zero, List.set_cons_succ])
  refine takeL (i := 14) (v := ?_) rfl (by kernel_rfl) (by kernel_rfl) (by kernel_rfl) (fun _ _ _ h => h) (Or.inl ⟨by rfl, ?_⟩) (unhide HH) ?_
  rotate_left 1
  · intro W ⟨⟨s1, s2, s3, s4⟩, s5, s6, s7, s8⟩; go_simp; all_goals (with_reducible rfl)
  (try simp only [Act.put, List.setIfInBounds_toArray, List.set_cons_zero, List.set_cons_succ])
  refine takeL (i := 15) (v := ?_) rfl (by kernel_rfl) (by kernel_rfl) (by kernel_rfl) (fun _ _ _ h => h) (Or.inl ⟨by rfl, ?_⟩) (unhide HH) ?_
  rotate_left 1
  · intro W ⟨⟨s1, s2, s3, s4⟩, s5, s6, s7, s8⟩; go_simp; all_goals (with_reducible rfl)
  (try simp only [Act.put, List.setIfInBounds_toArray, List.set_cons_zero, List.set_cons_succ])
  refine takeL (i := 16) (v := ?_) rfl (by kernel_rfl) (by kernel_rfl) (by kernel_rfl) (fun _ _ _ h => h) (Or.inl ⟨by rfl, ?_⟩) (unhide HH) ?_
  rotate_left 1
  · intro W ⟨⟨s1, s2, s3, s4⟩, s5, s6, s7, s8⟩; go_simp; all_goals (with_reducible rfl)
  (try simp only [Act.put, List.setIfInBounds_toArray, List.set_cons_zero, List.set_cons_succ])
  refine takeL (i := 17) (v := ?_) rfl (by kernel_rfl) (by kernel_rfl) (by kernel_rfl) (fun _ _ _ h => h) (Or.inl ⟨by rfl, ?_⟩) (unhide HH) ?_
  rotate_left 1
  · intro W ⟨⟨s1, s2, s3, s4⟩, s5, s6, s7, s8⟩; go_simp; all_goals (with_reducible rfl)
  (try simp only [Act.put, List.setIfInBounds_toArray, List.set_cons_zero, List.set_cons_succ])
  refine takeL (i := 18) (v := ?_) rfl (by kernel_rfl) (by kernel_rfl) (by kernel_rfl) (fun _ _ _ h => h) (Or.inl ⟨by rfl, ?_⟩) (unhide HH) ?_
  rotate_left 1
  · intro W ⟨⟨s1, s2, s3, s4⟩, s5, s6, s7, s8⟩; go_simp; all_goals (with_reducible rfl)
  (try simp only [Act.put, List.setIfInBounds_toArray, List.set_cons_zero, List.set_cons_succ])
  refine takeL (i := 19) (v := ?_) rfl (by kernel_rfl) (by kernel_rfl) (by kernel_rfl) (fun _ _ _ h => h) (Or.inl ⟨by rfl, ?_⟩) (unhide HH) ?_
  rotate_left 1
  · intro W ⟨⟨s1, s2, s3, s4⟩, s5, s6, s7, s8⟩; go_simp; all_goals (with_reducible rfl)
  (try simp only [Act.put, List.setIfInBounds_toArray, List.set_cons_zero, List.set_cons_succ])
  refine takeL (i := 20) (v := ?_) rfl (by kernel_rfl) (by kernel_rfl) (by kernel_rfl) (fun _ _ _ h => h) (Or.inl ⟨by rfl, ?_⟩) (unhide HH) ?_
  rotate_left 1
  · intro W ⟨⟨s1, s2, s3, s4⟩, s5, s6, s7, s8⟩; go_simp; all_goals (with_reducible rfl)
  (try simp only [Act.put, List.setIfInBounds_toArray, List.set_cons_zero, List.set_cons_succ])
  refine takeL (i := 21) (v := ?_) rfl (by kernel_rfl) (by kernel_rfl) (by kernel_rfl) (fun _ _ _ h => h) (Or.inl ⟨by rfl, ?_⟩) (unhide HH) ?_
  rotate_left 1
  · intro W ⟨⟨s1, s2, s3, s4⟩, s5, s6, s7, s8⟩; go_simp; all_goals (with_reducible rfl)
  (try simp only [Act.put, List.setIfInBounds_toArray, List.set_cons_zero, List.set_cons_succ])
  refine takeL (i := 22) (v := ?_) rfl (by kernel_rfl) (by kernel_rfl) (by kernel_rfl) (fun _ _ _ h => h) (Or.inl ⟨by rfl, ?_⟩) (unhide HH) ?_
  rotate_left 1
  · intro W ⟨⟨s1, s2, s3, s4⟩, s5, s6, s7, s8⟩; go_simp; all_goals (with_reducible rfl)
  (try simp only [Act.put, List.setIfInBounds_toArray, List.set_cons_zero, List.set_cons_succ])
  refine takeL (i := 23) (v := ?_) rfl (by kernel_rfl) (by kernel_rfl) (by kernel_rfl) (fun _ _ _ h => h) (Or.inl ⟨by rfl, ?_⟩) (unhide HH) ?_
  rotate_left 1
  · intro W ⟨⟨s1, s2, s3, s4⟩, s5, s6, s7, s8⟩; go_simp; all_goals (with_reducible rfl)
  (try simp only [Act.put, List.setIfInBounds_toArray, List.set_cons_zero, List.set_cons_succ])
  refine takeL (i := 24) (v := ?_) rfl (by kernel_rfl) (by kernel_rfl) (by kernel_rfl) (fun _ _ _ h => h) (Or.inl ⟨by rfl, ?_⟩) (unhide HH) ?_
  rotate_left 1
  · intro W ⟨⟨s1, s2, s3, s4⟩, s5, s6, s7, s8⟩; go_simp; all_goals (with_reducible rfl)
  (try simp only [Act.put, List.setIfInBounds_toArray, List.set_cons_zero, List.set_cons_succ])
  refine takeL (i := 25) (v := ?_) rfl (by kernel_rfl) (by kernel_rfl) (by kernel_rfl) (fun _ _ _ h => h) (Or.inl ⟨by rfl, ?_⟩) (unhide HH) ?_
  rotate_left 1
  · intro W ⟨⟨s1, s2, s3, s4⟩, s5, s6, s7, s8⟩; go_simp; all_goals (with_reducible rfl)
  (try simp only [Act.put, List.setIfInBounds_toArray, List.set_cons_zero, List.set_cons_succ])
  refine takeL (i := 26) (v := ?_) rfl (by kernel_rfl) (by kernel_rfl) (by kernel_rfl) (fun _ _ _ h => h) (Or.inl ⟨by rfl, ?_⟩) (unhide HH) ?_
  rotate_left 1
  · intro W ⟨⟨s1, s2, s3, s4⟩, s5, s6, s7, s8⟩; go_simp; all_goals (with_reducible rfl)
  (try simp only [Act.put, List.setIfInBounds_toArray, List.set_cons_zero, List.set_cons_succ])
  refine wpAnyH_ready (rs := [27]) (by kernel_rfl) (by simp) ?_
  refine consL rfl (fun K hK => ?_) AllReadyH.nil
  go_simp
  have hh : Fr 0 W2 (.slice oh 60 ch) (s.held d b p) := by have := (unhide HND).hold d b p hd hb hp; rw [unhide HHV] at this; exact this
  have hz : FrZ W2 (.slice on nn cn) (s.noise d b p) := by have := ((unhide HND).nois d b p hd hb hp).1; rw [unhide HNV] at this; exact this
  obtain ⟨ga, hA, _⟩ := hh.arg ((unhide HND).ok.bs d b p)
  obtain ⟨gz, hZ⟩ := hz.zarg ((unhide HND).nois d b p hd hb hp).2
  refine (rflip_any _ _ ga gz _ _ _ hA hZ (by rw [(unhide HND).ok.len]; omega)).mono ?_
  rintro e W3 ⟨v3, rfl, hF3, hb3⟩
  go_wp2_with fail
  have hN3 := (unhide HND).below hb3
  obtain ⟨o3, n3, c3, rfl⟩ : ∃ o n c, v3 = .slice o n c := by
    obtain ⟨o, c, h⟩ := hF3.shape
    exact ⟨_, _, _, h⟩
  refine hK.out _ _ (⟨⟨(hN3).tc 3 rfl, (hN3).rb.cell hd, (hN3).bc (j := 0) hd hb (by omega), ((hN3).pg d b hd hb |>.cell hp).trans (congrArg some (unhide HHV))⟩, (hN3).tc 4 rfl, (hN3).rl.cell hd, (hN3).lk d hd |>.cell hb, ((hN3).ng d b hd hb |>.cell hp).trans (congrArg some (unhide HNV))⟩) (fun hHeld => ?_)
  clear hK K HH
  have HH := hide hHeld
  clear hHeld
  (try simp only [Act.put, List.setIfInBounds_toArray, List.set_cons_zero, List.set_cons_succ])
  have HF3 := hide hF3.low
  have HN3 := hide hN3
  have HK3 := hide ((unhide HK0).trans (Kr.of_below hb3 (Nat.le_of_lt (unhide HND).n_lt)))
  clear hF3 hN3 hb3 hh hz hA hZ
  refine takeL (i := 28) (v := ?_) rfl (by kernel_rfl) (by kernel_rfl) (by kernel_rfl) (fun _ _ _ h => h) (Or.inl ⟨by rfl, ?_⟩) (unhide HH) ?_
  rotate_left 1
  · intro W ⟨⟨s1, s2, s3, s4⟩, s5, s6, s7, s8⟩; go_simp; all_goals (with_reducible rfl)
  (try simp only [Act.put, List.setIfInBounds_toArray, List.set_cons_zero, List.set_cons_succ])
  refine takeL (i := 29) (v := ?_) rfl (by kernel_rfl) (by kernel_rfl) (by kernel_rfl) (fun _ _ _ h => h) (Or.inl ⟨by rfl, ?_⟩) (unhide HH) ?_
  rotate_left 1
  · intro W ⟨⟨s1, s2, s3, s4⟩, s5, s6, s7, s8⟩; go_simp; all_goals (with_reducible rfl)
  (try simp only [Act.put, List.setIfInBounds_toArray, List.set_cons_zero, List.set_cons_succ])
  refine wpAnyH_done (by kernel_rfl) ?_ _
  refine NoPanic.normal ?_
  go_wp2_with fail
  go_returns
  exact ⟨_, rfl, unhide HF3, unhide HN3, unhide HK3⟩

end Go.Proofs.Ytnondiaefpdlpaa
