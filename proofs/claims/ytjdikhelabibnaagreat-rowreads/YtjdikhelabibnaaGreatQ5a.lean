/-
  ramekinref2's Log and Inv; truth values in memory; rows that the call itself made; ramekinref5.sums.
-/
import Derived.Test.YtjdikhelabibnaaGreatR5a
import Derived.Test.YtjdikhelabibnaaGreatT6
namespace Go.Proofs.YtjdikhelabibnaaGreat
open Go.RowKit
theorem lg_at {a i : Nat} (h : E i = a) (hi : i < 255) : lg a = i := by
  have h0 := E_ne i
  unfold lg
  rw [if_neg (by omega), ← h, L_E hi]

theorem lg_none {a : Nat} (ha : a < 256) (h : ∀ i, i < 255 → E i ≠ a) : lg a = -1 := by
  unfold lg
  by_cases h0 : a = 0
  · rw [if_pos h0]
  · exact absurd (E_L (by omega) ha).1 (h _ (E_L (by omega) ha).2)

set_option maxRecDepth 100000 in
set_option maxHeartbeats 2000000 in
theorem rlog_any (a : Nat) (ha : a < 256) (w : World) : Calls Tryz.prog 109 #[.int .u8 a] w fun e w' => e = .returned (.int .i64 (lg a)) ∧ w' = w := by
  go_enter Tryz.func109, Tryz.ntmps109
  go_wp2_with fail
  go_loop [3, 4] (fun x i => ∃ i' : Nat, i' ≤ 255 ∧ i = .int .i64 i' ∧ x = .int .u8 (E i' : Nat) ∧ ∀ k, k < i' → E k ≠ a) (fun _ i => 255 - (intOf i).toNat)
  case atStart => exact ⟨0, by omega, rfl, rfl, fun k hk => by omega⟩
  case round =>
    obtain ⟨i, hi, rfl, rfl, hall⟩ := hrel
    have HA := hide hall
    clear hall
    have hE := E_lt i
    by_cases hlt : i < 255
    · have hlt' : (i : Int) < 255 := by omega
      by_cases hEa : E i = a
      · have hEa' : (((E i : Nat) : Int) == (a : Int)) = true := by rw [beq_iff_eq, hEa]
        go_wp2
        go_ret
        rw [lg_at hEa hlt]
        exact ⟨rfl, rfl⟩
      · have hEa' : (((E i : Nat) : Int) == (a : Int)) = false := by rw [beq_eq_false_iff_ne]; omega
        go_wp2_with fail
        refine (rmul_any (E i) 2 hE (by omega) _).mono ?_
        rintro e w' ⟨rfl, rfl⟩
        rw [gmul_two_E]
        go_wp2
        go_round
        case rel => exact ⟨i + 1, by omega, by go_num, rfl, fun k hk => by
          by_cases e : k = i
          · rw [e]; exact hEa
          · exact unhide HA k (by omega)⟩
        case measure => simp [intOf]; omega
    · have e : i = 255 := by omega
      subst e
      go_wp2
      go_ret
      rw [lg_none ha (unhide HA)]
      exact ⟨rfl, rfl⟩

theorem pw_inv {a : Nat} (h0 : 0 < a) : X (255 - lg a) = pw a (-1) := by
  unfold pw lg
  rw [if_neg (by omega), if_neg (by omega), if_neg (by omega)]
  exact X_congr (by omega)

theorem lg_bounds {a : Nat} (ha : a < 256) : -1 ≤ lg a ∧ lg a < 255 := by
  unfold lg
  split
  · omega
  · have := (E_L (a := a) (by omega) ha).2
    omega

set_option maxRecDepth 100000 in
set_option maxHeartbeats 2000000 in
theorem rinv_any (a : Nat) (ha : a < 256) (w : World) : Calls Tryz.prog 73 #[.int .u8 a] w fun e w' => e = .returned (.int .u8 (pw a (-1) : Nat)) ∧ w' = w := by
  by_cases h0 : a = 0
  · subst h0
    rw [pw_zero (by omega)]
    go_enter Tryz.func73, Tryz.ntmps73
    go_wp2
    go_ret
    exact ⟨rfl, rfl⟩
  · have h0' : ((a : Int) == 0) = false := by rw [beq_eq_false_iff_ne]; omega
    obtain ⟨hl0, hl1⟩ := lg_bounds ha
    go_enter Tryz.func73, Tryz.ntmps73
    go_wp2_with fail
    refine (rlog_any a ha w).mono ?_
    rintro e w' ⟨rfl, rfl⟩
    go_wp2_with fail
    refine (rexp_any (255 - lg a) _).mono ?_
    rintro e w' ⟨rfl, rfl⟩
    rw [pw_inv (by omega)]
    go_wp2
    go_ret
    exact ⟨rfl, rfl⟩


/-- Truth values lie in block g. -/
def BBlk (w : World) (g N : Nat) (p : Nat → Bool) : Prop := ∃ cur, w.heap[g]? = some (.cells cur 4 (0, 0)) ∧ ∀ j, j < N → cur[j]? = some (.bool (p j))
theorem BBlk.lt {w : World} {g N : Nat} {p : Nat → Bool} (h : BBlk w g N p) : g < w.heap.size := by
  obtain ⟨cur, h, _⟩ := h
  exact lt_of_block h
theorem BBlk.cell {w : World} {g N : Nat} {p : Nat → Bool} (h : BBlk w g N p) {j : Nat} (hj : j < N) : w.cell? ⟨g, j, none⟩ = some (.bool (p j)) := by
  obtain ⟨cur, h, hc⟩ := h
  simp [World.cell?, h, hc j hj]
theorem BBlk.free {w : World} {g N : Nat} {p : Nat → Bool} (h : BBlk w g N p) {j : Nat} : w.frozen? ⟨g, j, none⟩ = false := by
  obtain ⟨cur, h, hc⟩ := h
  simp [World.frozen?, h]
theorem BBlk.of {w w' : World} {g N : Nat} {p : Nat → Bool} (h : BBlk w g N p) (e : w'.heap[g]? = w.heap[g]?) : BBlk w' g N p := by
  obtain ⟨cur, h, hc⟩ := h
  exact ⟨cur, e.trans h, hc⟩
theorem BBlk.congr {w : World} {g N : Nat} {p q : Nat → Bool} (h : BBlk w g N p) (e : ∀ i, i < N → p i = q i) : BBlk w g N q := by
  obtain ⟨cur, h, hc⟩ := h
  exact ⟨cur, h, fun j hj => by rw [← e j hj]; exact hc j hj⟩
theorem BBlk.set {w : World} {g N : Nat} {p : Nat → Bool} (h : BBlk w g N p) (j : Nat) (b : Bool) (hj : j < N) : BBlk (w.setCell ⟨g, j, none⟩ (.bool b)) g N (fun i => if i = j then b else p i) := by
  obtain ⟨cur, h, hc⟩ := h
  refine ⟨cur.setIfInBounds j (.bool b), heap_setCell_same w g j _ _ _ h, fun i hi => ?_⟩
  have hj2 : j < cur.size := (Array.getElem?_eq_some_iff.1 (hc j hj)).1
  rw [Array.getElem?_setIfInBounds]
  by_cases e : j = i
  · subst e; dsimp only; rw [if_pos rfl, if_pos hj2, if_pos rfl]
  · dsimp only; rw [if_neg e, if_neg (fun k => e k.symm)]; exact hc i hi
theorem infoO : (Tryz.prog.info? 4).map (fun i => (i.zero, i.size, i.bytes)) = some (some (.bool false), 1, 1) := by kernel_rfl
theorem made_nots (m : Nat) : madeCells (Value.cells (.bool false)) (m * 1) = (List.replicate m (Value.bool false)).toArray := by
  apply Array.ext'
  apply List.ext_getElem?
  intro j
  by_cases hj : j < m
  · simp [madeCells, Value.cells, hj, Nat.mod_one]
  · simp [madeCells, Value.cells, hj]
theorem run_nots (m : Nat) (hm : m ≤ 1000000) (w : World) : (Instr.makeSlice 123 (.int .i64 (m : Int)) (.int .i64 (m : Int))).run Tryz.prog w = .ok (.slice (some ⟨w.heap.size, 0, none⟩) m m) (w.alloc (.cells (List.replicate m (Value.bool false)).toArray 4)) := by
  obtain ⟨i0, hi0, hz0, hz1, hz2⟩ := info_parts infoO
  have h := run_make (P := Tryz.prog) w 123 4 i0 (.bool false) Tryz.underlying123 hi0 hz0 .i64 .i64 m m (by omega) (by omega) (by rw [hz2]; omega) (by omega)
  rw [hz1, Int.toNat_natCast, made_nots] at h
  exact h
theorem bblk_nots (m : Nat) (w : World) : BBlk (w.alloc (.cells (List.replicate m (Value.bool false)).toArray 4)) w.heap.size m (fun _ => false) := by
  refine ⟨_, World.alloc_heap_new w _, fun j hj => ?_⟩
  simp [hj]

/-- Rows that the call made: their slices lie in gO, row i's bytes in G i. -/
structure OutS (W : World) (base gO N n : Nat) (G C : Nat → Nat) (out : List (List Nat)) : Prop where
  len : out.length = N
  cur : ∃ cur, W.heap[gO]? = some (.cells cur 47 (0, 0)) ∧ ∀ i, i < N → cur[i]? = some (.slice (some ⟨G i, 0, none⟩) n (C i))
  rows : ∀ i, i < N → Blk W (G i) (out.getD i [])
  rl : ∀ i, i < N → (out.getD i []).length = n
  cap : ∀ i, i < N → n ≤ C i ∧ C i ≤ maxLen
  lo : ∀ i, i < N → base ≤ G i
  inj : ∀ i j, i < j → j < N → G i < G j
  bs : ∀ i, Bs (out.getD i [])
  ob : base ≤ gO
theorem OutS.ne {W : World} {base gO N n : Nat} {G C : Nat → Nat} {out : List (List Nat)} (h : OutS W base gO N n G C out) {i j : Nat} (hi : i < N) (hj : j < N) (e : i ≠ j) : G i ≠ G j := by
  by_cases h1 : i < j
  · have := h.inj i j h1 hj; omega
  · have := h.inj j i (by omega) hi; omega
theorem OutS.gne {W : World} {base gO N n : Nat} {G C : Nat → Nat} {out : List (List Nat)} (h : OutS W base gO N n G C out) {i : Nat} (hi : i < N) : gO ≠ G i := by
  intro e
  obtain ⟨cur, h1, _⟩ := h.cur
  obtain ⟨c2, h2, _⟩ := h.rows i hi
  rw [← e, h1] at h2
  injection h2 with h3
  injection h3 with h4 h5
  exact absurd h5 (by decide)
theorem OutS.bne {W : World} {base gO N n : Nat} {G C : Nat → Nat} {out : List (List Nat)} (h : OutS W base gO N n G C out) {i g M : Nat} {p : Nat → Bool} (hb : BBlk W g M p) (hi : i < N) : g ≠ G i := by
  intro e
  obtain ⟨cur, h1, _⟩ := hb
  obtain ⟨c2, h2, _⟩ := h.rows i hi
  rw [← e, h1] at h2
  injection h2 with h3
  injection h3 with h4 h5
  exact absurd h5 (by decide)
theorem OutS.head {W : World} {base gO N n : Nat} {G C : Nat → Nat} {out : List (List Nat)} (h : OutS W base gO N n G C out) {i : Nat} (hi : i < N) : W.cell? ⟨gO, i, none⟩ = some (.slice (some ⟨G i, 0, none⟩) n (C i)) := by
  obtain ⟨cur, h1, h2⟩ := h.cur
  simp [World.cell?, h1, h2 i hi]
theorem OutS.byte {W : World} {base gO N n : Nat} {G C : Nat → Nat} {out : List (List Nat)} (h : OutS W base gO N n G C out) {i k : Nat} (hi : i < N) (hk : k < n) : W.cell? ⟨G i, k, none⟩ = some (.int .u8 ((rc out i k : Nat) : Int)) := (h.rows i hi).cell (by rw [h.rl i hi]; exact hk)
theorem OutS.of {W W' : World} {base gO N n : Nat} {G C : Nat → Nat} {out : List (List Nat)} (h : OutS W base gO N n G C out) (e : W'.heap[gO]? = W.heap[gO]?) (e2 : ∀ i, i < N → W'.heap[G i]? = W.heap[G i]?) : OutS W' base gO N n G C out := by
  obtain ⟨cur, h1, h2⟩ := h.cur
  exact ⟨h.len, ⟨cur, e.trans h1, h2⟩, fun i hi => (h.rows i hi).of (e2 i hi), h.rl, h.cap, h.lo, h.inj, h.bs, h.ob⟩
theorem OutS.lt {W : World} {base gO N n : Nat} {G C : Nat → Nat} {out : List (List Nat)} (h : OutS W base gO N n G C out) : gO < W.heap.size := by
  obtain ⟨cur, h1, _⟩ := h.cur
  exact lt_of_block h1
theorem OutS.below {W W' : World} {base gO N n : Nat} {G C : Nat → Nat} {out : List (List Nat)} (h : OutS W base gO N n G C out) (k : Below W.heap.size W W') : OutS W' base gO N n G C out :=
  h.of (k.block gO h.lt) (fun i hi => k.block _ (h.rows i hi).lt)
/-- One byte is stored. -/
theorem OutS.set {W : World} {base gO N n : Nat} {G C : Nat → Nat} {out : List (List Nat)} (h : OutS W base gO N n G C out) {x k v : Nat} (hx : x < N) (hk : k < n) (hv : v < 256) :
    OutS (W.setCell ⟨G x, k, none⟩ (.int .u8 (v : Int))) base gO N n G C (out.set x ((out.getD x []).set k v)) := by
  have hxl : x < out.length := by rw [h.len]; exact hx
  have hkp : Kp [G x] W (W.setCell ⟨G x, k, none⟩ (.int .u8 (v : Int))) := (Kp.refl _ W).setCell _ _ (.inl (by simp))
  obtain ⟨cur, h1, h2⟩ := h.cur
  refine ⟨by rw [List.length_set]; exact h.len, ⟨cur, hkp.heap h1 (by simpa using h.gne hx), h2⟩, fun i hi => ?_, fun i hi => ?_, h.cap, h.lo, h.inj, fun i => ?_, h.ob⟩
  · rw [getD_set hxl]
    by_cases e : x = i
    · subst e
      rw [if_pos rfl]
      exact (h.rows x hx).set k v (by rw [h.rl x hx]; exact hk)
    · rw [if_neg e]
      exact (h.rows i hi).of (hkp.block _ (h.rows i hi).lt (by simpa using fun e2 => h.ne hi hx (fun e3 => e e3.symm) e2))
  · rw [getD_set hxl]
    split
    · rw [List.length_set]; exact h.rl x hx
    · exact h.rl i hi
  · rw [getD_set hxl]
    split
    · intro j
      rw [cf_set _ _ _ _ (by rw [h.rl x hx]; exact hk)]
      split
      · exact hv
      · exact h.bs x j
    · exact h.bs i
theorem OutS.rows_arg {W : World} {base gO N n : Nat} {G C : Nat → Nat} {out : List (List Nat)} (h : OutS W base gO N n G C out) {i : Nat} (hi : i < N) : Arg W (.slice (some ⟨G i, 0, none⟩) (out.getD i []).length (C i)) (G i) (out.getD i []) :=
  (h.rows i hi).arg (h.bs i) (by rw [h.rl i hi]; exact (h.cap i hi).1) (h.cap i hi).2
/-- The first d of them. -/
theorem OutS.front {W : World} {base gO N n c d : Nat} {G C : Nat → Nat} {out : List (List Nat)} (h : OutS W base gO N n G C out) (hd : d ≤ N) (h1 : N ≤ c) (h2 : c ≤ maxLen) : RArg W (.slice (some ⟨gO, 0, none⟩) d c) gO (fun i => some ⟨G i, 0, none⟩) C (out.take d) := by
  have hl : (out.take d).length = d := by rw [List.length_take, h.len]; omega
  refine ⟨⟨some ⟨gO, 0, none⟩, c, by rw [hl], by rw [hl]; omega, h2, (fun h => by cases h), .inr ⟨0, rfl, fun j hj => ?_⟩⟩, fun i hi => ?_⟩
  · rw [hl] at hj
    rw [Nat.zero_add, h.head (by omega)]
    show _ = some (Value.slice _ ((out.take d).getD j []).length _)
    rw [getD_take hj, h.rl j (by omega)]
  · rw [hl] at hi
    rw [getD_take hi]
    exact ⟨G i, h.rows_arg (by omega)⟩
/-- As rows whose slices may be turned. -/
theorem OutS.tn {W : World} {base gO N n : Nat} {G C : Nat → Nat} {out : List (List Nat)} (h : OutS W base gO N n G C out) : Tn W gO N ((List.range N).map (fun i => (some (⟨G i, 0, none⟩ : Addr), C i))) out := by
  have hp : ∀ j, j < N → psA ((List.range N).map (fun i => (some (⟨G i, 0, none⟩ : Addr), C i))) j = some ⟨G j, 0, none⟩ ∧ psC ((List.range N).map (fun i => (some (⟨G i, 0, none⟩ : Addr), C i))) j = C j := fun j hj => by
    unfold psA psC
    rw [List.getD_eq_getElem?_getD, List.getElem?_map, List.getElem?_range hj]
    exact ⟨rfl, rfl⟩
  obtain ⟨cur, h1, h2⟩ := h.cur
  refine ⟨⟨cur, h1, fun j hj => ?_⟩, by simp, h.len, fun j hj => ?_⟩
  · rw [(hp j hj).1, (hp j hj).2, h.rl j hj]; exact h2 j hj
  · rw [(hp j hj).1, (hp j hj).2]
    exact ⟨G j, h.rows_arg hj, fun _ e => h.gne hj e.symm⟩

/-- What the rows below d that are there make at a byte. -/
def sP (out : List (List Nat)) (p : Nat → Bool) (d c : Nat) : Nat := xsum (fun i => if p i = true then 0 else rc out i c) (List.range d)
def sQ (out : List (List Nat)) (p : Nat → Bool) (d c : Nat) : Nat := xsum (fun i => if p i = true then 0 else gmul (E i) (rc out i c)) (List.range d)
theorem sP_succ (out : List (List Nat)) (p : Nat → Bool) (d c : Nat) : sP out p (d + 1) c = sP out p d c ^^^ (if p d = true then 0 else rc out d c) := by
  unfold sP; rw [List.range_succ, xsum_append]; simp
theorem sQ_succ (out : List (List Nat)) (p : Nat → Bool) (d c : Nat) : sQ out p (d + 1) c = sQ out p d c ^^^ (if p d = true then 0 else gmul (E d) (rc out d c)) := by
  unfold sQ; rw [List.range_succ, xsum_append]; simp
theorem sP_lt {out : List (List Nat)} {p : Nat → Bool} {d c : Nat} (h : ∀ i, Bs (out.getD i [])) : sP out p d c < 256 := xsum_lt (fun i _ => by split; omega; exact h i c)
theorem sQ_lt {out : List (List Nat)} {p : Nat → Bool} {d c : Nat} : sQ out p d c < 256 := xsum_lt (fun i _ => by split; omega; exact gmul_lt (E_lt i))

set_option maxRecDepth 100000 in
set_option maxHeartbeats 8000000 in
theorem rsums_any {w : World} {base gO N n gg cO cG k : Nat} {G C : Nat → Nat} {out : List (List Nat)} {p : Nat → Bool} (hO : OutS w base gO N n G C out) (hB : BBlk w gg N p) (hN2 : 2 ≤ N) (hN16 : N ≤ 16) (hk : k < n) :
    Calls Tryz.prog 72 #[.slice (some ⟨gO, 0, none⟩) N cO, .slice (some ⟨gg, 0, none⟩) N cG, .int .i64 (k : Int)] w fun e w' => e = .returned (.tuple #[.int .u8 ((sP out p (N - 2) k : Nat) : Int), .int .u8 ((sQ out p (N - 2) k : Nat) : Int)]) ∧ Below w.heap.size w w' := by
  have HO := hide hO
  have HB := hide hB
  have HBS : Hid (∀ i, Bs (out.getD i [])) := hO.bs
  clear hO hB
  obtain ⟨d, hd⟩ : ∃ d, N - 2 = d := ⟨_, rfl⟩
  have hd1 : (N : Int) - 2 = (d : Int) := by omega
  have hd2 : d + 2 = N := by omega
  rw [hd]
  clear hd
  have hk1 : (k : Int) < (n : Int) := by omega
  go_enter Tryz.func72, Tryz.ntmps72
  go_wp2_with fail
  go_loopw [9, 10, 11] (fun a b q wr => ∃ i : Nat, a = .int .u8 ((sP out p i k : Nat) : Int) ∧ b = .int .u8 ((sQ out p i k : Nat) : Int) ∧ q = .int .i64 i ∧ i ≤ d ∧ Kp [] w wr) (fun _ _ q _ => d - (intOf q).toNat)
  case atStart => exact ⟨0, rfl, rfl, rfl, by omega, Kp.refl _ _⟩
  case round =>
    obtain ⟨i, rfl, rfl, rfl, hi, hK⟩ := hrel
    have HK := hide hK
    clear hK
    obtain ⟨s, hs⟩ : ∃ s, sP out p i k = s := ⟨_, rfl⟩
    obtain ⟨t, ht⟩ : ∃ t, sQ out p i k = t := ⟨_, rfl⟩
    have hs8 : s < 256 := by rw [← hs]; exact sP_lt (unhide HBS)
    have ht8 : t < 256 := by rw [← ht]; exact sQ_lt
    rw [hs, ht]
    have HS := hide hs
    have HT := hide ht
    clear hs ht
    by_cases hlt : i < d
    · have hi1 : (i : Int) < (d : Int) := by omega
      have hi2 : (i : Int) < (N : Int) := by omega
      have hb := (unhide HK).cell ((unhide HB).cell (j := i) (by omega)) (by simp)
      have hh := (unhide HK).cell ((unhide HO).head (i := i) (by omega)) (by simp)
      have hy := (unhide HK).cell ((unhide HO).byte (i := i) (k := k) (by omega) hk) (by simp)
      cases hp : p i with
      | true =>
        rw [hp] at hb
        have HP := hide hp
        clear hp hh hy
        go_wp2_with fail
        go_roundw
        case rel => exact ⟨i + 1, by rw [sP_succ, unhide HS, if_pos (unhide HP), Nat.xor_zero], by rw [sQ_succ, unhide HT, if_pos (unhide HP), Nat.xor_zero], by go_num, by omega, unhide HK⟩
        case measure => simp [intOf]; omega
      | false =>
        rw [hp] at hb
        have HP := hide hp
        clear hp
        obtain ⟨x, hx⟩ : ∃ x, rc out i k = x := ⟨_, rfl⟩
        have hx8 : x < 256 := by rw [← hx]; exact unhide HBS i k
        rw [hx] at hy
        have HX := hide hx
        have hxor1 := bits_xor_u8 hs8 hx8
        have hxor2 := bits_xor_u8 ht8 (gmul_lt (a := X (i : Int)) (b := x) (X_lt _))
        have HH1 := hide hh
        have HH2 := hide hy
        clear hx
        go_wp2_with fail
        clear hb hh hy
        refine wp_region_noPanic ?_
        refine wp_region_held_drew (S := fun W => Kp [] wr W) (by kernel_rfl) ((Kp.refl _ _).drew) (fun hHeld => ?_)
        have HH := hide hHeld
        clear hHeld
        refine takeL (i := 0) (v := ?_) rfl (by kernel_rfl) (by kernel_rfl) (by kernel_rfl) (fun _ _ _ h => h) (Or.inl ⟨by rfl, ?_⟩) (unhide HH) ?_
        rotate_left 1
        · intro W hSW; go_simp; all_goals (with_reducible rfl)
        (try simp only [Act.put, List.setIfInBounds_toArray, List.set_cons_zero, List.set_cons_succ])
        refine takeL (i := 1) (v := ?_) rfl (by kernel_rfl) (by kernel_rfl) (by kernel_rfl) (fun _ _ _ h => h) (Or.inl ⟨by rfl, ?_⟩) (unhide HH) ?_
        rotate_left 1
        · intro W hSW; go_simp; all_goals (with_reducible rfl)
        (try simp only [Act.put, List.setIfInBounds_toArray, List.set_cons_zero, List.set_cons_succ])
        refine takeL (i := 3) (v := ?_) rfl (by kernel_rfl) (by kernel_rfl) (by kernel_rfl) (fun _ _ _ h => h) (Or.inl ⟨by rfl, ?_⟩) (unhide HH) ?_
        rotate_left 1
        · intro W hSW; go_simp; all_goals (with_reducible rfl)
        (try simp only [Act.put, List.setIfInBounds_toArray, List.set_cons_zero, List.set_cons_succ])
        refine takeL (i := 4) (v := ?_) rfl (by kernel_rfl) (by kernel_rfl) (by kernel_rfl) (fun _ _ _ h => h) (Or.inl ⟨by rfl, ?_⟩) (unhide HH) ?_
        rotate_left 1
        · intro W hSW; go_simp; all_goals (with_reducible rfl)
        (try simp only [Act.put, List.setIfInBounds_toArray, List.set_cons_zero, List.set_cons_succ])
        refine takeL (i := 5) (v := ?_) rfl (by kernel_rfl) (by kernel_rfl) (by kernel_rfl) (fun _ _ _ h => h) (Or.inl ⟨by rfl, ?_⟩) (unhide HH) ?_
        rotate_left 1
        · intro W hSW; go_simp; all_goals (with_reducible rfl)
        (try simp only [Act.put, List.setIfInBounds_toArray, List.set_cons_zero, List.set_cons_succ])
        refine takeL (i := 6) (v := ?_) rfl (by kernel_rfl) (by kernel_rfl) (by kernel_rfl) (fun _ _ _ h => h) (Or.inl ⟨by rfl, ?_⟩) (unhide HH) ?_
        rotate_left 1
        · intro W1 hSW; have hc := hSW.cell (unhide HH1) (by simp); clear hSW; go_simp; all_goals (with_reducible rfl)
        (try simp only [Act.put, List.setIfInBounds_toArray, List.set_cons_zero, List.set_cons_succ])
        refine takeL (i := 7) (v := ?_) rfl (by kernel_rfl) (by kernel_rfl) (by kernel_rfl) (fun _ _ _ h => h) (Or.inl ⟨by rfl, ?_⟩) (unhide HH) ?_
        rotate_left 1
        · intro W hSW; go_simp; all_goals (with_reducible rfl)
        (try simp only [Act.put, List.setIfInBounds_toArray, List.set_cons_zero, List.set_cons_succ])
        refine takeL (i := 8) (v := ?_) rfl (by kernel_rfl) (by kernel_rfl) (by kernel_rfl) (fun _ _ _ h => h) (Or.inl ⟨by rfl, ?_⟩) (unhide HH) ?_
        rotate_left 1
        · intro W hSW; go_simp; all_goals (with_reducible rfl)
        (try simp only [Act.put, List.setIfInBounds_toArray, List.set_cons_zero, List.set_cons_succ])
        refine takeL (i := 9) (v := ?_) rfl (by kernel_rfl) (by kernel_rfl) (by kernel_rfl) (fun _ _ _ h => h) (Or.inl ⟨by rfl, ?_⟩) (unhide HH) ?_
        rotate_left 1
        · intro W1 hSW; have hc := hSW.cell (unhide HH2) (by simp); clear hSW; go_simp; all_goals (with_reducible rfl)
        (try simp only [Act.put, List.setIfInBounds_toArray, List.set_cons_zero, List.set_cons_succ])
        refine wpAnyH_ready (rs := [2]) (by kernel_rfl) (by simp) ?_
        refine consL rfl (fun K hK => ?_) AllReadyH.nil
        go_simp
        refine (rexp_any (i : Int) _).mono ?_
        rintro e w4 ⟨rfl, hw4⟩
        subst hw4
        go_wp2_with fail
        refine hK.out _ _ (unhide HH) (fun hHeld => ?_)
        clear hK K HH
        have HH := hide hHeld
        clear hHeld
        (try simp only [Act.put, List.setIfInBounds_toArray, List.set_cons_zero, List.set_cons_succ])
        refine wpAnyH_ready (rs := [10]) (by kernel_rfl) (by simp) ?_
        refine consL rfl (fun K hK => ?_) AllReadyH.nil
        go_simp
        refine (rmul_any (X (i : Int)) x (X_lt _) hx8 _).mono ?_
        rintro e w5 ⟨rfl, hw5⟩
        subst hw5
        go_wp2_with fail
        refine hK.out _ _ (unhide HH) (fun hHeld => ?_)
        clear hK K HH
        have HH := hide hHeld
        clear hHeld
        (try simp only [Act.put, List.setIfInBounds_toArray, List.set_cons_zero, List.set_cons_succ])
        refine takeL (i := 11) (v := ?_) rfl (by kernel_rfl) (by kernel_rfl) (by kernel_rfl) (fun _ _ _ h => h) (Or.inl ⟨by rfl, ?_⟩) (unhide HH) ?_
        rotate_left 1
        · intro W hSW; go_simp; all_goals (with_reducible rfl)
        (try simp only [Act.put, List.setIfInBounds_toArray, List.set_cons_zero, List.set_cons_succ])
        refine takeL (i := 12) (v := ?_) rfl (by kernel_rfl) (by kernel_rfl) (by kernel_rfl) (fun _ _ _ h => h) (Or.inl ⟨by rfl, ?_⟩) (unhide HH) ?_
        rotate_left 1
        · intro W hSW; go_simp; all_goals (with_reducible rfl)
        (try simp only [Act.put, List.setIfInBounds_toArray, List.set_cons_zero, List.set_cons_succ])
        refine wpAnyH_done (by kernel_rfl) ?_ _
        refine NoPanic.normal ?_
        go_wp2_with fail
        go_roundw
        case rel => exact ⟨i + 1, by rw [sP_succ, unhide HS, if_neg (by rw [unhide HP]; simp), unhide HX], by rw [sQ_succ, unhide HT, if_neg (by rw [unhide HP]; simp), unhide HX, X_nat], by go_num, by omega, (unhide HK).drew⟩
        case measure => simp [intOf]; omega
    · have e : i = d := by omega
      subst e
      have H := hide (below_kp (Below.refl w.heap.size w) (unhide HK) (by simp) (Nat.le_refl _))
      go_wp2_with fail
      go_returns
      rw [unhide HS, unhide HT]
      exact ⟨rfl, unhide H⟩

end Go.Proofs.YtjdikhelabibnaaGreat
