/-
  nand: Read, Noise, Erases, IsBad.
-/
import Derived.Test.YtnondiaefpdlpaaMe
import Derived.Test.YtnondiaefpdlpaaB6f
import Derived.Test.YtnondiaefpdlpaaMc
namespace Go.Proofs.Ytnondiaefpdlpaa
open Go.RowKit Go.Shelf

theorem below_cell' {m : Nat} {A B : World} (h : Below m A B) {p : Addr} {v : Value} (hc : A.cell? p = some v) (hp : p.block < m) : B.cell? p = some v := (h.cell hp).trans hc

/-- A page of a block that is not bad. -/
def Nd.Good (s : Nd) (d b p : Int) : Prop := (s.There d b ∧ s.bad d.toNat b.toNat = false) ∧ 0 ≤ p ∧ p < (s.P : Int)
theorem good_nat {s : Nd} {d b p : Nat} (hd : d < s.D) (hb : b < s.B) (hbad : s.bad d b = false) (hp : p < s.P) : s.Good d b p := ⟨⟨There.nat hd hb, hbad⟩, by omega, by omega⟩
theorem snd_good {s : Nd} {L : La} {d b : Nat} (hd : d < s.D) (hb : b < s.B) (hbad : s.bad d b = false) : s.snd L d b = .pointer (some ⟨L.bs d, b * 4, none⟩) := by rw [Nd.snd, if_pos ⟨There.nat hd hb, hbad⟩]; rfl
theorem snd_none {s : Nd} {L : La} {d b : Int} (h : ¬ (s.There d b ∧ s.bad d.toNat b.toNat = false)) : s.snd L d b = .pointer none := by rw [Nd.snd, if_neg h]

set_option maxRecDepth 100000 in
set_option maxHeartbeats 4000000 in
theorem read_dead {m : Nat} {w : World} {L : La} {s : Nd} (h : NA m w L s) (hd : s.dead = true) (d b p : Int) :
    Calls Try.prog 24 #[.pointer (some ⟨L.n, 0, none⟩), .int .i64 d, .int .i64 b, .int .i64 p] w fun e w' => e = .returned (.tuple #[.slice none 0 0, .int .i64 8]) ∧ w' = w := by
  have hc := h.cDead
  rw [hd] at hc
  clear h hd
  go_enter Try.func24, Try.ntmps24
  go_wp2_with fail
  go_returns
  exact ⟨rfl, rfl⟩

set_option maxRecDepth 100000 in
set_option maxHeartbeats 4000000 in
theorem read_bad {m : Nat} {w : World} {L : La} {s : Nd} (h : NA m w L s) (hd : s.dead = false) (d b p : Int) (hbad : ¬ s.Good d b p) :
    Calls Try.prog 24 #[.pointer (some ⟨L.n, 0, none⟩), .int .i64 d, .int .i64 b, .int .i64 p] w fun e w' => e = .returned (.tuple #[.slice none 0 0, .int .i64 1]) ∧ NA m w' L { s with wrong := inc s.wrong } ∧ Kn m w w' := by
  have hc := h.cDead
  rw [hd] at hc
  have HN := hide h
  have HC := hide hc
  clear h hd
  by_cases h1 : s.There d b ∧ s.bad d.toNat b.toNat = false
  · obtain ⟨d, rfl⟩ := Int.eq_ofNat_of_zero_le h1.1.1.1
    obtain ⟨b, rfl⟩ := Int.eq_ofNat_of_zero_le h1.1.2.1
    have hd : d < s.D := by have := h1.1.1.2; omega
    have hb : b < s.B := by have := h1.1.2.2; omega
    have HS := hide (snd_good (L := L) hd hb h1.2)
    have HP := hide (onS_out (g := L.ps d b) (n := 2) (fun h2 => hbad ⟨h1, h2⟩ : ¬ (0 ≤ p ∧ p < (s.P : Int))))
    clear hbad h1
    go_enter Try.func24, Try.ntmps24
    go_wp2_with fail
    refine (sound_any (unhide HN) _ _).mono ?_
    rintro e w ⟨rfl, rfl⟩
    rw [unhide HS]
    go_wp2_with fail
    refine (page_any (unhide HN) hd hb _).mono ?_
    rintro e w ⟨rfl, rfl⟩
    rw [unhide HP]
    clear hc
    go_wp2_with fail
    refine (refuse_any (unhide HN)).mono ?_
    rintro e w1 ⟨rfl, hN1, hK1⟩
    have HN1 := hide hN1
    have HK1 := hide hK1
    clear hN1 hK1
    go_wp2_with fail
    go_returns
    exact ⟨rfl, unhide HN1, unhide HK1⟩
  · have HS := hide (snd_none (L := L) h1)
    clear hbad h1
    go_enter Try.func24, Try.ntmps24
    go_wp2_with fail
    refine (sound_any (unhide HN) _ _).mono ?_
    rintro e w ⟨rfl, rfl⟩
    rw [unhide HS]
    go_wp2_with fail
    refine (page_nil _ _).mono ?_
    rintro e w ⟨rfl, rfl⟩
    clear hc
    go_wp2_with fail
    refine (refuse_any (unhide HN)).mono ?_
    rintro e w1 ⟨rfl, hN1, hK1⟩
    have HN1 := hide hN1
    have HK1 := hide hK1
    clear hN1 hK1
    go_wp2_with fail
    go_returns
    exact ⟨rfl, unhide HN1, unhide HK1⟩

set_option maxRecDepth 100000 in
set_option maxHeartbeats 4000000 in
theorem read_good {m : Nat} {w : World} {L : La} {s : Nd} (h : NA m w L s) (hdd : s.dead = false) {d b p : Nat} (hd : d < s.D) (hb : b < s.B) (hbad : s.bad d b = false) (hp : p < s.P) :
    Calls Try.prog 24 #[.pointer (some ⟨L.n, 0, none⟩), .int .i64 (d : Int), .int .i64 (b : Int), .int .i64 (p : Int)] w fun e w' => ∃ v, e = .returned (.tuple #[v, .int .i64 0]) ∧ Fr w.heap.size w' v (flipZ (s.held d b p) (s.noise d b p)) ∧ NA m w' L { s with ops := inc s.ops } ∧ Kn m w w' := by
  have hc := h.cDead
  rw [hdd] at hc
  have hs := h.setOps (inc s.ops)
  have hco := h.cOps
  have hfo := h.tf 7
  have HN := hide h
  have HS := hide (snd_good (L := L) hd hb hbad)
  have HP := hide (onS_in (g := L.ps d b) (n := 2) hp)
  have HS7 := hide hs
  have hlen := h.ok.len d b p
  have HBS := hide (h.ok.bs d b p)
  clear hs h hdd hbad
  go_enter Try.func24, Try.ntmps24
  go_wp2_with fail
  refine (sound_any (unhide HN) _ _).mono ?_
  rintro e w ⟨rfl, rfl⟩
  rw [unhide HS]
  go_wp2_with fail
  refine (page_any (unhide HN) hd hb _).mono ?_
  rintro e w ⟨rfl, rfl⟩
  rw [unhide HP]
  clear hc
  have hco := (unhide HN).cOps
  have hfo := (unhide HN).tf 7
  go_wp2_with fail
  obtain ⟨hN1, hK1⟩ := unhide HS7
  have hzz : (w.setCell ⟨L.n, 7, none⟩ (.int .i64 (inc s.ops))).heap.size = w.heap.size := by simp [World.setCell]
  have hN2 : NA m (w.setCell ⟨L.n, 7, none⟩ (.int .i64 (inc s.ops))).drew L { s with ops := inc s.ops } := hN1.below (Below.refl _ _).drew
  have hK2 : Kn m w (w.setCell ⟨L.n, 7, none⟩ (.int .i64 (inc s.ops))).drew := hK1.drew
  have hza : w.heap.size ≤ (w.setCell ⟨L.n, 7, none⟩ (.int .i64 (inc s.ops))).drew.heap.size := Nat.le_of_eq hzz.symm
  clear hzz hN1 hK1 HS7 hco hfo HN HS HP
  change Code.wp Try.prog _ _ _ (w.setCell ⟨L.n, 7, none⟩ (.int .i64 (inc s.ops)))
  refine wp_region_noPanic ?_
  refine wp_region_held_drew (S := fun W => Below (w.setCell ⟨L.n, 7, none⟩ (.int .i64 (inc s.ops))).drew.heap.size (w.setCell ⟨L.n, 7, none⟩ (.int .i64 (inc s.ops))).drew W) (by kernel_rfl) (Below.refl _ _) (fun hHeld => ?_)
  have HH := hide hHeld
  clear hHeld
  generalize (w.setCell ⟨L.n, 7, none⟩ (.int .i64 (inc s.ops))).drew = W2 at hN2 hK2 HH hza ⊢
  have C0 : Hid (W2.cell? ⟨L.ps d b, p * 2, none⟩ = some (L.hv d b p)) := hN2.pc hd hb hp (j := 0) (by omega)
  have C1 : Hid (W2.cell? ⟨L.ps d b, p * 2 + 1, none⟩ = some (L.nv d b p)) := hN2.pc hd hb hp (j := 1) (by omega)
  have HLT : Hid (L.ps d b < W2.heap.size) := block_lt_of_cell (unhide C0)
  obtain ⟨ln, hln1, hln2, hln3⟩ := hN2.nois d b p hd hb hp
  obtain ⟨gh, hArg, _⟩ := (hN2.hold d b p hd hb hp).arg (unhide HBS)
  obtain ⟨gn, hZ, _⟩ := hln1.z hln2
  have HFL := hide (hln3 (s.held d b p) hlen (unhide HBS))
  have HARG := hide hArg
  have HZ := hide hZ
  have HN2 := hide hN2
  have HK2 := hide hK2
  clear hN2 hK2 hln1 hln2 hln3 hArg hZ
  refine takeL (i := 0) (v := ?_) rfl (by kernel_rfl) (by kernel_rfl) (by kernel_rfl) (fun _ _ _ h => h) (Or.inl ⟨by rfl, ?_⟩) (unhide HH) ?_
  rotate_left 1
  · intro W hSW; go_simp; all_goals (with_reducible rfl)
  (try simp only [Act.put, List.setIfInBounds_toArray, List.set_cons_zero, List.set_cons_succ])
  refine takeL (i := 1) (v := ?_) rfl (by kernel_rfl) (by kernel_rfl) (by kernel_rfl) (fun _ _ _ h => h) (Or.inl ⟨by rfl, ?_⟩) (unhide HH) ?_
  rotate_left 1
  · intro W hSW; go_simp; all_goals (with_reducible rfl)
  (try simp only [Act.put, List.setIfInBounds_toArray, List.set_cons_zero, List.set_cons_succ])
  refine takeL (i := 2) (v := ?_) rfl (by kernel_rfl) (by kernel_rfl) (by kernel_rfl) (fun _ _ _ h => h) (Or.inl ⟨by rfl, ?_⟩) (unhide HH) ?_
  rotate_left 1
  · intro W hSW; go_simp; all_goals (with_reducible rfl)
  (try simp only [Act.put, List.setIfInBounds_toArray, List.set_cons_zero, List.set_cons_succ])
  refine takeL (i := 3) (v := ?_) rfl (by kernel_rfl) (by kernel_rfl) (by kernel_rfl) (fun _ _ _ h => h) (Or.inl ⟨by rfl, ?_⟩) (unhide HH) ?_
  rotate_left 1
  · intro W1 hSW; have hcl := below_cell' hSW (unhide C0) (unhide HLT); clear hSW; go_simp; all_goals (with_reducible rfl)
  (try simp only [Act.put, List.setIfInBounds_toArray, List.set_cons_zero, List.set_cons_succ])
  refine takeL (i := 4) (v := ?_) rfl (by kernel_rfl) (by kernel_rfl) (by kernel_rfl) (fun _ _ _ h => h) (Or.inl ⟨by rfl, ?_⟩) (unhide HH) ?_
  rotate_left 1
  · intro W hSW; go_simp; all_goals (with_reducible rfl)
  (try simp only [Act.put, List.setIfInBounds_toArray, List.set_cons_zero, List.set_cons_succ])
  refine takeL (i := 5) (v := ?_) rfl (by kernel_rfl) (by kernel_rfl) (by kernel_rfl) (fun _ _ _ h => h) (Or.inl ⟨by rfl, ?_⟩) (unhide HH) ?_
  rotate_left 1
  · intro W hSW; go_simp; all_goals (with_reducible rfl)
  (try simp only [Act.put, List.setIfInBounds_toArray, List.set_cons_zero, List.set_cons_succ])
  refine takeL (i := 6) (v := ?_) rfl (by kernel_rfl) (by kernel_rfl) (by kernel_rfl) (fun _ _ _ h => h) (Or.inl ⟨by rfl, ?_⟩) (unhide HH) ?_
  rotate_left 1
  · intro W hSW; go_simp; all_goals (with_reducible rfl)
  (try simp only [Act.put, List.setIfInBounds_toArray, List.set_cons_zero, List.set_cons_succ])
  refine takeL (i := 7) (v := ?_) rfl (by kernel_rfl) (by kernel_rfl) (by kernel_rfl) (fun _ _ _ h => h) (Or.inl ⟨by rfl, ?_⟩) (unhide HH) ?_
  rotate_left 1
  · intro W1 hSW; have hcl := below_cell' hSW (unhide C1) (unhide HLT); clear hSW; go_simp; all_goals (with_reducible rfl)
  (try simp only [Act.put, List.setIfInBounds_toArray, List.set_cons_zero, List.set_cons_succ])
  refine wpAnyH_ready (rs := [8]) (by kernel_rfl) (by simp) ?_
  refine consL rfl (fun K hK => ?_) AllReadyH.nil
  go_simp
  refine (flip6_any _ _ gh gn _ _ W2 (unhide HARG) (unhide HZ) (by rw [hlen]; omega)).mono ?_
  rintro e W3 ⟨v3, rfl, hF3, hb3⟩
  simp only [] at hF3
  rw [unhide HFL] at hF3
  go_wp2_with fail
  have HF3 := hide (hF3.below (Below.refl _ _) hza)
  have HB3 := hide hb3
  refine hK.out _ _ (hb3) (fun hHeld => ?_)
  clear hK K HH
  have HH := hide hHeld
  clear hHeld
  (try simp only [Act.put, List.setIfInBounds_toArray, List.set_cons_zero, List.set_cons_succ])
  clear hF3 hb3
  refine takeL (i := 9) (v := ?_) rfl (by kernel_rfl) (by kernel_rfl) (by kernel_rfl) (fun _ _ _ h => h) (Or.inl ⟨by rfl, ?_⟩) (unhide HH) ?_
  rotate_left 1
  · intro W hSW; go_simp; all_goals (with_reducible rfl)
  (try simp only [Act.put, List.setIfInBounds_toArray, List.set_cons_zero, List.set_cons_succ])
  refine takeL (i := 10) (v := ?_) rfl (by kernel_rfl) (by kernel_rfl) (by kernel_rfl) (fun _ _ _ h => h) (Or.inl ⟨by rfl, ?_⟩) (unhide HH) ?_
  rotate_left 1
  · intro W hSW; go_simp; all_goals (with_reducible rfl)
  (try simp only [Act.put, List.setIfInBounds_toArray, List.set_cons_zero, List.set_cons_succ])
  refine wpAnyH_done (by kernel_rfl) ?_ _
  refine NoPanic.normal ?_
  go_wp2_with fail
  go_returns
  exact ⟨_, rfl, unhide HF3, (unhide HN2).below (unhide HB3), (unhide HK2).trans (Kn.of_below (unhide HB3) (Nat.le_of_lt (unhide HN2).n_lt))⟩

/-- What is turned in the end: told by its places alone. -/
theorem turned_eq {h : List Nat} (zs : List Int) (hl : h.length = 60) (hb : Bs h) : flipZ h (ints (apL (List.replicate 60 0) (flipZ (List.replicate 60 0) zs))) = flipZ h zs := by
  have hz : (List.replicate 60 0 : List Nat).length = 60 := List.length_replicate
  have hle : (List.replicate 60 0 : List Nat).length = (flipZ (List.replicate 60 0) zs).length := by rw [flipZ_len]
  refine bytes_ext (by rw [flipZ_len, flipZ_len]) (flipZ_bs hb _) (flipZ_bs hb _) (fun k hk => ?_)
  rw [flipZ_len] at hk
  rw [bf_flipZ _ _ hk, bf_flipZ _ _ hk, count_ints (ap_nodup _ _)]
  have h0 : bf (cf (List.replicate 60 0)) k = 0 := by
    unfold bf
    rw [cf_zeros]
    simp [bt]
  have hm := ap_mem hle k
  rw [bf_flipZ _ _ (by rw [hz]; omega), h0, Nat.zero_xor] at hm
  have hlt : k < 8 * (List.replicate 60 0 : List Nat).length := by rw [hz]; omega
  have h2 : List.count (k : Int) zs % 2 < 2 := Nat.mod_lt _ (by omega)
  by_cases e : k ∈ apL (List.replicate 60 0) (flipZ (List.replicate 60 0) zs)
  · rw [if_pos e]
    have := (hm.1 e).2
    have e1 : List.count (k : Int) zs % 2 = 1 := by omega
    rw [e1]
  · rw [if_neg e]
    have e0 : List.count (k : Int) zs % 2 = 0 := Decidable.byContradiction (fun hne => e (hm.2 ⟨hlt, fun h => hne h.symm⟩))
    rw [e0]

set_option maxRecDepth 100000 in
set_option maxHeartbeats 4000000 in
theorem turned_any (v : Value) (gl : Nat) (zs : List Int) (w : World) (hZ : ZArg w v gl zs) :
    Calls Try.prog 65 #[v] w fun e w' => ∃ r l, e = .returned r ∧ OwnI w.heap.size w' r l ∧ (∀ k ∈ l, k < 1000000) ∧ (∀ h : List Nat, h.length = 60 → Bs h → flipZ h (ints l) = flipZ h zs) ∧ Below w.heap.size w w' := by
  have hmk : ∀ w : World, (Instr.makeSlice 38 (.int .i64 60) (.int .i64 60)).run Try.prog w = .ok (.slice (some ⟨w.heap.size, 0, none⟩) 60 60) (w.alloc (.cells (List.replicate 60 (Value.int .u8 0)).toArray 5)) := run_zeros 60 (by omega)
  have HZA := hide (zeros_arg 60 (by omega) w)
  have hal : Below w.heap.size w (w.alloc (.cells (List.replicate 60 (Value.int .u8 0)).toArray 5)) := (Below.refl _ _).alloc (Nat.le_refl _) _
  have HK1 := hide hal
  have HZ := hide (hZ.below hal)
  obtain ⟨z60, hz60⟩ : ∃ z, (List.replicate 60 (Value.int .u8 0)).toArray = z := ⟨_, rfl⟩
  rw [hz60] at HZA HK1 HZ
  simp only [hz60] at hmk
  clear hz60 hal hZ
  go_enter Try.func65, Try.ntmps65
  go_wp2_with fail
  refine (flip6_any _ _ _ gl _ _ _ (unhide HZA) (unhide HZ) (by simp)).mono ?_
  rintro e w2 ⟨v2, rfl, hF, hb2⟩
  obtain ⟨g2, hA2, _⟩ := hF.arg (flipZ_bs (Bs.zeros 60) zs)
  have HA2 := hide hA2
  have HZ2 := hide ((unhide HZA).below hb2)
  have HK2 := hide ((unhide HK1).trans (hb2.mono (unhide HK1).size))
  clear hF hA2 hb2 hmk
  go_wp2_with fail
  refine (apart_any _ _ _ _ _ _ w2 (unhide HZ2) (unhide HA2) (by simp)).mono ?_
  rintro e w3 ⟨r, rfl, hO, hb3⟩
  have HO := hide (hO.mono (unhide HK2).size)
  have HK3 := hide ((unhide HK2).trans (hb3.mono (unhide HK2).size))
  clear hO hb3
  go_wp2_with fail
  go_ret
  exact ⟨_, _, rfl, unhide HO, fun k hk => by have := ap_lt hk; simp at this; omega, fun h hl hb => turned_eq zs hl hb, unhide HK3⟩

set_option maxRecDepth 100000 in
set_option maxHeartbeats 4000000 in
theorem noise_bad {m : Nat} {w : World} {L : La} {s : Nd} (h : NA m w L s) (d b p : Int) (v : Value) (hbad : ¬ (s.There d b ∧ 0 ≤ p ∧ p < (s.P : Int))) :
    Calls Try.prog 41 #[.pointer (some ⟨L.n, 0, none⟩), .int .i64 d, .int .i64 b, .int .i64 p, v] w fun e w' => e = .returned (.int .i64 1) ∧ w' = w := by
  have HN := hide h
  clear h
  by_cases h1 : s.There d b
  · have HS : Hid (s.blk L d b = .pointer (some ⟨L.bs d.toNat, b.toNat * 4, none⟩)) := by show _ = _; rw [Nd.blk, if_pos h1]
    obtain ⟨d, rfl⟩ := Int.eq_ofNat_of_zero_le h1.1.1
    obtain ⟨b, rfl⟩ := Int.eq_ofNat_of_zero_le h1.2.1
    have hd : d < s.D := by have := h1.1.2; omega
    have hb : b < s.B := by have := h1.2.2; omega
    rw [Int.toNat_natCast, Int.toNat_natCast] at HS
    have HP := hide (onS_out (g := L.ps d b) (n := 2) (fun h2 => hbad ⟨h1, h2⟩ : ¬ (0 ≤ p ∧ p < (s.P : Int))))
    clear hbad h1
    go_enter Try.func41, Try.ntmps41
    go_wp2_with fail
    refine (block_any (unhide HN) _ _).mono ?_
    rintro e w ⟨rfl, rfl⟩
    rw [unhide HS]
    go_wp2_with fail
    refine (page_any (unhide HN) hd hb _).mono ?_
    rintro e w ⟨rfl, rfl⟩
    rw [unhide HP]
    go_wp2_with fail
    go_ret
    exact ⟨rfl, rfl⟩
  · have HS : Hid (s.blk L d b = .pointer none) := by show _ = _; rw [Nd.blk, if_neg h1]
    clear hbad h1
    go_enter Try.func41, Try.ntmps41
    go_wp2_with fail
    refine (block_any (unhide HN) _ _).mono ?_
    rintro e w ⟨rfl, rfl⟩
    rw [unhide HS]
    go_wp2_with fail
    refine (page_nil _ _).mono ?_
    rintro e w ⟨rfl, rfl⟩
    go_wp2_with fail
    go_ret
    exact ⟨rfl, rfl⟩

theorem blk_nat {s : Nd} {L : La} {d b : Nat} (hd : d < s.D) (hb : b < s.B) : s.blk L d b = .pointer (some ⟨L.bs d, b * 4, none⟩) := by rw [Nd.blk, if_pos (There.nat hd hb)]; rfl

set_option maxRecDepth 100000 in
set_option maxHeartbeats 4000000 in
theorem noise_good {m : Nat} {w : World} {L : La} {s : Nd} (h : NA m w L s) {d b p : Nat} (hd : d < s.D) (hb : b < s.B) (hp : p < s.P) (v : Value) (gl : Nat) (zs : List Int) (hZ : ZArg w v gl zs) :
    Calls Try.prog 41 #[.pointer (some ⟨L.n, 0, none⟩), .int .i64 (d : Int), .int .i64 (b : Int), .int .i64 (p : Int), v] w fun e w' => e = .returned (.int .i64 0) ∧ (∃ L', L'.n = L.n ∧ NA m w' L' { s with noise := put3 s.noise d b p zs }) ∧ Kn m w w' := by
  have HN := hide h
  have HS := hide (blk_nat (L := L) hd hb)
  have HP := hide (onS_in (g := L.ps d b) (n := 2) hp)
  have HZ := hide hZ
  clear h hZ
  go_enter Try.func41, Try.ntmps41
  go_wp2_with fail
  refine (block_any (unhide HN) _ _).mono ?_
  rintro e w ⟨rfl, rfl⟩
  rw [unhide HS]
  go_wp2_with fail
  refine (page_any (unhide HN) hd hb _).mono ?_
  rintro e w ⟨rfl, rfl⟩
  rw [unhide HP]
  go_wp2_with fail
  refine (turned_any _ gl zs _ (unhide HZ)).mono ?_
  rintro e w1 ⟨r, l, rfl, hO, hl1, hl2, hb1⟩
  have hN1 := (unhide HN).below hb1
  have hs := hN1.setP (i := 1) hd hb hp (by omega) r s.held (put3 s.noise d b p zs) L.hv (put3 L.nv d b p r) hN1.ok.len hN1.ok.bs (fun d' b' p' j hj => by
      match j, hj with
      | 0, _ => rw [if_neg (fun h => by have := h.2.2.2; omega)]; rfl
      | 1, _ =>
        show put3 L.nv d b p r d' b' p' = _
        unfold put3
        by_cases e : d' = d ∧ b' = b ∧ p' = p
        · rw [if_pos e, if_pos ⟨e.1, e.2.1, e.2.2, rfl⟩]
        · rw [if_neg e, if_neg (fun h => e ⟨h.1, h.2.1, h.2.2.1⟩)]; rfl) hN1.hold (fun d' b' p' hd' hb' hp' => by
      unfold put3
      by_cases e : d' = d ∧ b' = b ∧ p' = p
      · simp only [if_pos e]; exact ⟨l, hO.mono (Nat.zero_le _), hl1, hl2⟩
      · simp only [if_neg e]; exact hN1.nois d' b' p' hd' hb' hp')
  have hcc : w1.cell? ⟨L.ps d b, p * 2 + 1, none⟩ = some (L.nv d b p) := hN1.pc hd hb hp (j := 1) (by omega)
  have hff := hN1.pf hd hb (p * 2 + 1)
  obtain ⟨ro, rn, rc, rfl⟩ : ∃ o n c, r = .slice o n c := by
    rcases hO.shape with ⟨h, _⟩ | ⟨g, c, h, _⟩
    · exact ⟨_, _, _, h⟩
    · exact ⟨_, _, _, h⟩
  have HS1 := hide hs.1
  have HK1 := hide ((Kn.of_below hb1 (Nat.le_of_lt (unhide HN).n_lt)).trans hs.2)
  clear hs hN1 hO hl1 hl2 hb1
  go_wp2_with fail
  go_ret
  exact ⟨rfl, ⟨{ L with nv := put3 L.nv d b p (.slice ro rn rc) }, rfl, unhide HS1⟩, unhide HK1⟩

/-- How often a block was erased; of none nought. -/
def Nd.eraOf (s : Nd) (d b : Int) : Int := if s.There d b then s.era d.toNat b.toNat else 0
def Nd.badB (s : Nd) (d b : Int) : Bool := if s.There d b then s.bad d.toNat b.toNat else false

set_option maxRecDepth 100000 in
set_option maxHeartbeats 4000000 in
theorem erases_any {m : Nat} {w : World} {L : La} {s : Nd} (h : NA m w L s) (d b : Int) :
    Calls Try.prog 29 #[.pointer (some ⟨L.n, 0, none⟩), .int .i64 d, .int .i64 b] w fun e w' => e = .returned (.int .i64 (s.eraOf d b)) ∧ w' = w := by
  have HN := hide h
  by_cases h1 : s.There d b
  · obtain ⟨d, rfl⟩ := Int.eq_ofNat_of_zero_le h1.1.1
    obtain ⟨b, rfl⟩ := Int.eq_ofNat_of_zero_le h1.2.1
    have hd : d < s.D := by have := h1.1.2; omega
    have hb : b < s.B := by have := h1.2.2; omega
    have HS := hide (blk_nat (L := L) hd hb)
    have hcc : w.cell? ⟨L.bs d, b * 4 + 3, none⟩ = some (.int .i64 (s.era d b)) := h.bc hd hb (j := 3) (by omega)
    have he : s.eraOf d b = s.era d b := by rw [Nd.eraOf, if_pos h1]; rfl
    rw [he]
    have HC := hide hcc
    clear h h1 hcc he
    go_enter Try.func29, Try.ntmps29
    go_wp2_with fail
    refine (block_any (unhide HN) _ _).mono ?_
    rintro e w ⟨rfl, rfl⟩
    rw [unhide HS]
    have hcc := unhide HC
    go_wp2_with fail
    go_ret
    exact ⟨rfl, rfl⟩
  · have HS : Hid (s.blk L d b = .pointer none) := by show _ = _; rw [Nd.blk, if_neg h1]
    rw [Nd.eraOf, if_neg h1]
    clear h h1
    go_enter Try.func29, Try.ntmps29
    go_wp2_with fail
    refine (block_any (unhide HN) _ _).mono ?_
    rintro e w ⟨rfl, rfl⟩
    rw [unhide HS]
    go_wp2_with fail
    go_ret
    exact ⟨rfl, rfl⟩

set_option maxRecDepth 100000 in
set_option maxHeartbeats 4000000 in
theorem isBad_any {m : Nat} {w : World} {L : La} {s : Nd} (h : NA m w L s) (d b : Int) :
    Calls Try.prog 30 #[.pointer (some ⟨L.n, 0, none⟩), .int .i64 d, .int .i64 b] w fun e w' => e = .returned (.bool (s.badB d b)) ∧ w' = w := by
  have HN := hide h
  by_cases h1 : s.There d b
  · obtain ⟨d, rfl⟩ := Int.eq_ofNat_of_zero_le h1.1.1
    obtain ⟨b, rfl⟩ := Int.eq_ofNat_of_zero_le h1.2.1
    have hd : d < s.D := by have := h1.1.2; omega
    have hb : b < s.B := by have := h1.2.2; omega
    have HS := hide (blk_nat (L := L) hd hb)
    have hcc : w.cell? ⟨L.bs d, b * 4, none⟩ = some (.bool (s.bad d b)) := h.bc hd hb (j := 0) (by omega)
    have he : s.badB d b = s.bad d b := by rw [Nd.badB, if_pos h1]; rfl
    rw [he]
    obtain ⟨x, hx⟩ : ∃ x, s.bad d b = x := ⟨_, rfl⟩
    rw [hx] at hcc ⊢
    have HC := hide hcc
    clear h h1 hcc he hx
    go_enter Try.func30, Try.ntmps30
    go_wp2_with fail
    refine (block_any (unhide HN) _ _).mono ?_
    rintro e w ⟨rfl, rfl⟩
    rw [unhide HS]
    have hcc := unhide HC
    go_wp2_with fail
    go_ret
    exact ⟨rfl, rfl⟩
  · have HS : Hid (s.blk L d b = .pointer none) := by show _ = _; rw [Nd.blk, if_neg h1]
    rw [Nd.badB, if_neg h1]
    clear h h1
    go_enter Try.func30, Try.ntmps30
    go_wp2_with fail
    refine (block_any (unhide HN) _ _).mono ?_
    rintro e w ⟨rfl, rfl⟩
    rw [unhide HS]
    go_wp2_with fail
    go_ret
    exact ⟨rfl, rfl⟩

end Go.Proofs.Ytnondiaefpdlpaa
