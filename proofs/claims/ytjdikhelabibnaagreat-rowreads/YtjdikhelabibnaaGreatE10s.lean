/-
  A slot's bytes by themselves; what is read of them.
-/
import Derived.Test.YtjdikhelabibnaaGreatE10r
namespace Go.Proofs.YtjdikhelabibnaaGreat
open Go.RowKit Go.Shelf

theorem by8_one (v : Int) : by8 1 (IntKind.u64.wrap v) = [v % 256] := by
  rw [IntKind.wrap_u64]
  simp only [by8, List.cons.injEq, and_true]
  omega
/-- A slot's bytes; with whatever at their end. -/
def byW (a b c e k l s : Int) (d t : List Nat) : List Int :=
  by8 8 (IntKind.u64.wrap a) ++ ([b % 256, c % 256, e % 256, k % 256] ++ (by8 8 (IntKind.u64.wrap l) ++ (by8 8 (IntKind.u64.wrap s) ++ (ints d ++ ints t))))
def byT (a b c e k l s : Int) (d : List Nat) : List Int := byW a b c e k l s d [0, 0, 0, 0]
theorem ints_len10 (d : List Nat) : (ints d).length = d.length := by simp [ints]
theorem byW_len {a b c e k l s : Int} {d t : List Nat} (hd : d.length = 16) (ht : t.length = 4) : (byW a b c e k l s d t).length = 48 := by
  simp only [byW, List.length_append, by8_length, ints_len10, hd, ht, List.length_cons, List.length_nil]
theorem fin_all (a b c e k l s : Int) (d : List Nat) : fin10 (owH a b c e) 4 ++ fin10 (owE k l s d) 4 ++ fin10 (owT [0, 0, 0, 0]) 1 = byT a b c e k l s d := by
  simp only [fin10, owH, owE, owT, List.take_succ_cons, List.take_nil, List.flatten_cons, List.flatten_nil, by8_one, byT, byW, List.append_nil, List.append_assoc, List.cons_append, List.nil_append]
theorem byt_by8 (n : Nat) : ∀ v, Byt (by8 n v) := by
  induction n with
  | zero => intro v z hz; simp [by8] at hz
  | succ n ih =>
    intro v z hz
    rw [by8, List.mem_cons] at hz
    rcases hz with rfl | hz
    · omega
    · exact ih _ z hz
theorem byt_app {x y : List Int} (hx : Byt x) (hy : Byt y) : Byt (x ++ y) := fun z hz => (List.mem_append.1 hz).elim (hx z) (hy z)
theorem byt_ints {d : List Nat} (h : ∀ x ∈ d, x < 256) : Byt (ints d) := by
  intro z hz
  obtain ⟨x, hx, rfl⟩ := List.mem_map.1 hz
  have := h x hx
  exact ⟨by omega, by show (x : Int) ≤ 255; omega⟩
theorem byW_byt {a b c e k l s : Int} {d t : List Nat} (hd : ∀ x ∈ d, x < 256) (ht : ∀ x ∈ t, x < 256) : Byt (byW a b c e k l s d t) := by
  refine byt_app (byt_by8 _ _) (byt_app ?_ (byt_app (byt_by8 _ _) (byt_app (byt_by8 _ _) (byt_app (byt_ints hd) (byt_ints ht)))))
  intro z hz
  simp only [List.mem_cons, List.not_mem_nil, or_false] at hz
  rcases hz with rfl | rfl | rfl | rfl <;> omega
theorem mem_lt10 {d : List Nat} (h : ∀ j, cf d j < 256) : ∀ x ∈ d, x < 256 := by
  intro x hx
  obtain ⟨j, hj⟩ := List.mem_iff_getElem?.1 hx
  have h1 := h j
  obtain ⟨hlt, rfl⟩ := List.getElem?_eq_some_iff.1 hj
  have h2 := cf_get hlt
  rw [List.getElem?_eq_getElem hlt] at h2
  rw [Option.some.inj h2]
  exact h1

theorem rd8 (v : Int) (rest : List Int) : rdV 8 (by8 8 (IntKind.u64.wrap v) ++ rest) = wrap64 v := by
  unfold rdV
  have hl := by8_length 8 (IntKind.u64.wrap v)
  rw [if_pos (by rw [List.length_append, hl]; omega), List.take_append_of_le_length (by omega), List.take_of_length_le (by omega), le_by8, show (256 : Int) ^ 8 = 18446744073709551616 from by decide, IntKind.wrap_u64]
  simp only [wrap64]
  omega
theorem rs8 (v : Int) (rest : List Int) : rs1 8 (by8 8 (IntKind.u64.wrap v) ++ rest, 0) = (rest, 0) := by
  have hl := by8_length 8 (IntKind.u64.wrap v)
  unfold rs1 rdZ rdE
  dsimp only
  rw [if_pos (by rw [List.length_append, hl]; omega), if_pos (by rw [List.length_append, hl]; omega), List.drop_append_of_le_length (by omega), List.drop_of_length_le (by omega)]
  rfl
theorem rdv1 {x : Int} (h : 0 ≤ x ∧ x ≤ 255) (rest : List Int) : rdV 1 (x :: rest) = x := by
  unfold rdV
  rw [if_pos (by simp)]
  simp only [List.take_succ_cons, List.take_zero, le, wrap64]
  omega
theorem rsv1 (x : Int) (rest : List Int) : rs1 1 (x :: rest, 0) = (rest, 0) := by
  unfold rs1 rdZ rdE
  simp
theorem rd_row (d : List Nat) : ∀ (n : Nat) (rest : List Int), d.length = n → (∀ x ∈ d, x < 256) → rdL (List.replicate n 1) (ints d ++ rest, 0) = ints d ∧ rdS (List.replicate n 1) (ints d ++ rest, 0) = (rest, 0) := by
  induction d with
  | nil => intro n rest h _; subst h; exact ⟨rfl, rfl⟩
  | cons x d ih =>
    intro n rest h hb
    subst h
    have hx := hb x (by simp)
    obtain ⟨h1, h2⟩ := ih d.length rest rfl (fun y hy => hb y (by simp [hy]))
    have e : ints (x :: d) ++ rest = (x : Int) :: (ints d ++ rest) := rfl
    rw [List.length_cons, List.replicate_succ, rdL, rdS, e]
    dsimp only
    rw [rdv1 ⟨by omega, by omega⟩, rsv1, h1, h2]
    exact ⟨rfl, rfl⟩
theorem wrap64_in10 {v : Int} (h : -9223372036854775808 ≤ v ∧ v ≤ 9223372036854775807) : wrap64 v = v := by simp only [wrap64]; omega
/-- What is read of such bytes. -/
theorem read_byW (a b c e k l s : Int) (d t : List Nat) (hd : d.length = 16) (ht : t.length = 4) (hdb : ∀ x ∈ d, x < 256) (htb : ∀ x ∈ t, x < 256) :
    pH (byW a b c e k l s d t) = [wrap64 a, b % 256, c % 256, e % 256] ∧ pE (byW a b c e k l s d t) = k % 256 :: wrap64 l :: wrap64 s :: ints d ∧ pT (byW a b c e k l s d t) = ints t ∧ cod (byW a b c e k l s d t) = 0 := by
  obtain ⟨d1, d2⟩ := rd_row d 16 (ints t) hd hdb
  obtain ⟨t1, t2⟩ := rd_row t 4 [] ht htb
  rw [List.append_nil] at t1 t2
  have m1 : ∀ x : Int, 0 ≤ x % 256 ∧ x % 256 ≤ 255 := fun x => by omega
  have s1 : st1 (byW a b c e k l s d t) = ([k % 256] ++ (by8 8 (IntKind.u64.wrap l) ++ (by8 8 (IntKind.u64.wrap s) ++ (ints d ++ ints t))), 0) := by
    unfold st1 szH byW
    simp only [rdS, rs8, List.cons_append, rsv1, List.nil_append]
  have s2 : st2 (byW a b c e k l s d t) = (ints t, 0) := by
    unfold st2 szE
    rw [s1, rdS_app]
    simp only [rdS, rs8, List.cons_append, rsv1, List.nil_append]
    exact d2
  have s3 : st3 (byW a b c e k l s d t) = ([], 0) := by
    unfold st3 szT
    rw [s2]
    exact t2
  refine ⟨?_, ?_, ?_, ?_⟩
  · unfold pH szH byW
    simp only [rdL, rs8, rd8, List.cons_append, rsv1, List.nil_append, rdv1 (m1 _)]
  · unfold pE szE
    rw [s1, rdL_app]
    simp only [rdL, rdS, rs8, rd8, List.cons_append, rsv1, List.nil_append, rdv1 (m1 _)]
    rw [d1]
  · unfold pT szT
    rw [s2]
    exact t1
  · unfold cod
    rw [s3]
    simp
theorem ceH_all (s : List Int × Int) : ceH s 4 = headA ((rdL szH s).getD 0 0) ((rdL szH s).getD 1 0) ((rdL szH s).getD 2 0) ((rdL szH s).getD 3 0) := rfl
theorem stpH_all (s : List Int × Int) : stp zH s 4 = rdS szH s := rfl
theorem stpE_all (s : List Int × Int) : stp zE s 4 = rdS szE s := rfl
theorem stpT_all (s : List Int × Int) : stp zT s 1 = rdS szT s := rfl
theorem ints_drop10 (l : List Int) (h : ∀ z ∈ l, 0 ≤ z) : datL (nat10 l) = l.map (Value.int .u8) := by
  unfold datL
  rw [ints_nat10 h]
theorem csets_full (vs : List Value) : ∀ (cs : Array Value) (pre post : List Value) (n : Nat), pre.length = n → cs = (pre ++ post).toArray → post.length = vs.length → csets cs n vs = (pre ++ vs).toArray := by
  induction vs with
  | nil => intro cs pre post n _ h1 h2; rw [List.eq_nil_of_length_eq_zero h2] at h1; rw [h1]; rfl
  | cons v vs ih =>
    intro cs pre post n hn h1 h2
    subst hn
    match post, h2 with
    | p :: post, h2 =>
      rw [csets]
      have e : cs.setIfInBounds pre.length v = ((pre ++ [v]) ++ post).toArray := by
        rw [h1, List.setIfInBounds_toArray]
        congr 1
        rw [List.set_append_right _ _ (Nat.le_refl _), Nat.sub_self]
        simp
      rw [ih _ (pre ++ [v]) post _ (by simp) e (by simpa using h2)]
      simp
theorem ceE_all (s : List Int × Int) (h : Byt s.1) : ceE s 4 = entA ((rdL szE s).getD 0 0) ((rdL szE s).getD 1 0) ((rdL szE s).getD 2 0) (nat10 ((rdL szE s).drop 3)) := by
  have e3 : ceE s 3 = ([Value.int .i64 (rdV 1 (stp zE s 0).1), Value.int .i64 (rdV 8 (stp zE s 1).1), Value.int .i64 (rdV 8 (stp zE s 2).1)] ++ datL zer16).toArray := rfl
  have e4 : rdL szE s = [rdV 1 (stp zE s 0).1, rdV 8 (stp zE s 1).1, rdV 8 (stp zE s 2).1] ++ rdL (List.replicate 16 1) (stp zE s 3) := by
    unfold szE
    rw [rdL_app]
    rfl
  rw [ceE_last, csets_full _ _ [Value.int .i64 (rdV 1 (stp zE s 0).1), .int .i64 (rdV 8 (stp zE s 1).1), .int .i64 (rdV 8 (stp zE s 2).1)] (datL zer16) 3 rfl e3 (by rw [datL_len, zer16_len, List.length_map, rdL_len, List.length_replicate]), e4]
  unfold entA
  rw [List.drop_append_of_le_length (by simp), ints_drop10 _ (by
    intro z hz
    simp only [List.drop_succ_cons, List.drop_nil, List.nil_append] at hz
    exact (rd_ones (byt_stp 3 h) z hz).1)]
  rfl
theorem ceT_all (s : List Int × Int) (h : Byt s.1) : ceT s 1 = tailA (nat10 (rdL szT s)) := by
  have e3 : ceT s 0 = ([] ++ datL [0, 0, 0, 0]).toArray := rfl
  rw [ceT_last, csets_full _ _ [] (datL [0, 0, 0, 0]) 0 rfl e3 (by rw [datL_len, List.length_map, rdL_len, List.length_replicate]; rfl)]
  unfold tailA
  rw [ints_drop10 (rdL szT s) (fun z hz => (rd_ones (n := 4) h z hz).1)]
  rfl
end Go.Proofs.YtjdikhelabibnaaGreat
