/-
  The laws' own Places.
-/
import Derived.Test.YtjdikhelabibnaaGreatI6
namespace Go.Proofs.YtjdikhelabibnaaGreat
open Go.RowKit

theorem within4_any (a n : Int) (w : World) (hn : 0 < n) (hn2 : n < 100000) :
    Calls Tryz.prog 33 #[.int .i64 a, .int .i64 n] w fun e w' => e = .returned (.int .i64 (a % n)) ∧ w' = w := by
  obtain ⟨h1, h2, h3, h4⟩ := tmod_emod a n hn
  have H1 := hide h1
  have H2 := hide h2
  clear h1 h2
  go_enter Tryz.func33, Tryz.ntmps33
  go_wp2
  · have h5 : a.tmod n < 0 := by assumption
    go_ret
    exact ⟨by rw [← unhide H1 h5]; rfl, rfl⟩
  · have h5 : 0 ≤ a.tmod n := by assumption
    go_ret
    exact ⟨by rw [← unhide H2 h5]; rfl, rfl⟩

set_option maxRecDepth 100000 in
set_option maxHeartbeats 8000000 in
theorem places_any {w : World} (ao : Option Addr) (g len cap : Nat) (zs : List Int) (hz : zs.length = len) (hr : IRow w ao g zs) (hcap : len ≤ cap) (hm : cap ≤ maxLen) (hb : ∀ z ∈ zs, -9223372036854775808 ≤ z ∧ z ≤ 9223372036854775807) (n most : Nat) (hn0 : 0 < n) (hn1 : n < 1000) (hmo : most ≤ 1000) :
    Calls Tryz.prog 15 #[.slice ao len cap, .int .i64 (n : Int), .int .i64 (most : Int)] w fun e w' => ∃ v ps, e = .returned v ∧ ps.Nodup ∧ (∀ k ∈ ps, k < n) ∧ ps.length ≤ most ∧ OwnI w.heap.size w' v ps ∧ Below w.heap.size w w' := by
  obtain ⟨i0, hi0, hz0, hz1, hz2⟩ := info_parts infoI
  have HI := hide hi0
  have HR := hide hr
  have HZ := hide hz
  have HBO := hide hb
  clear hr hi0 hz hb
  have hlen : (len : Int) ≤ 9223372036854775807 := by unfold maxLen at hm; omega
  go_enter Tryz.func15, Tryz.ntmps15
  go_wp2_with fail
  go_loopw [7, 8] (fun v p wr => ∃ (i : Nat) (ps : List Nat) (v0 : Value), v = v0 ∧ p = .int .i64 i ∧ i ≤ len ∧ ps.Nodup ∧ (∀ k ∈ ps, k < n) ∧ ps.length ≤ most ∧ OwnI w.heap.size wr v ps ∧ Kp [] w wr) (fun _ p _ => len - (intOf p).toNat)
  case atStart => exact ⟨0, [], _, rfl, rfl, by omega, by simp, by simp, by simp, OwnI.nil _ _, Kp.refl _ _⟩
  case round =>
    obtain ⟨i, ps, v, rfl, rfl, hi, hnd, hlt24, hpl, hO, hK⟩ := hrel
    have HO := hide hO
    have HK := hide hK
    have HND := hide hnd
    have H224 := hide hlt24
    obtain ⟨vo, vc, rfl, hsh⟩ : ∃ vo vc, u7 = .slice vo ps.length vc ∧ ((vo = none ∧ ps = []) ∨ ∃ q, vo = some ⟨q, 0, none⟩ ∧ ∀ j, j < ps.length → wr.cell? ⟨q, j, none⟩ = some (.int .i64 ((cf ps j : Nat) : Int))) := by
      rcases hO.shape with ⟨h1, h2⟩ | ⟨q, cq, h1, h2, h3, h4, h5, h6⟩
      · exact ⟨none, 0, by rw [h1, h2]; rfl, .inl ⟨rfl, h2⟩⟩
      · exact ⟨some ⟨q, 0, none⟩, cq, h1, .inr ⟨q, rfl, h6⟩⟩
    have HSH := hide hsh
    have hsz := hK.size
    clear hO hK hnd hlt24 hsh
    by_cases hlt : i < len
    · have hi1 : (i : Int) < (len : Int) := by omega
      by_cases hmm : ps.length < most
      · have hm1 : (ps.length : Int) < (most : Int) := by omega
        obtain ⟨o, rfl, hcl⟩ := irow_some' (unhide HR) (by rw [unhide HZ]; omega)
        have hc := hcl i (by rw [unhide HZ]; exact hlt)
        have hcw := (unhide HK).cell hc (by simp)
        clear hcl hc
        obtain ⟨z, hzz⟩ : ∃ z, zs.getD i 0 = z := ⟨_, rfl⟩
        rw [hzz] at hcw
        clear hzz
        go_wp2_with fail
        refine (within4_any z n wr (by omega) (by omega)).mono ?_
        rintro e w' ⟨rfl, hw'⟩
        subst hw'
        obtain ⟨k, hk⟩ : ∃ k : Nat, z % (n : Int) = (k : Int) := ⟨(z % (n : Int)).toNat, by have := Int.emod_nonneg z (show (n : Int) ≠ 0 by omega); omega⟩
        have hk2 : k < n := by have := Int.emod_lt_of_pos z (show (0 : Int) < n by omega); omega
        rw [hk]
        clear hk hcw
        go_wp2_with fail
        go_loop [10, 11] (fun b q => ∃ (j : Nat) (y : Bool), b = .bool y ∧ q = .int .i64 j ∧ j ≤ ps.length ∧ (y = true ↔ k ∈ ps.take j)) (fun _ q => ps.length - (intOf q).toNat)
        case atStart => exact ⟨0, false, rfl, rfl, by omega, by simp⟩
        case round =>
          obtain ⟨j, y, rfl, rfl, hj, hy⟩ := hrel
          have HY := hide hy
          clear hy
          by_cases hj2 : j < ps.length
          · have hj1 : (j : Int) < (ps.length : Int) := by omega
            cases y with
            | true =>
              go_wp2_with fail
              go_round
              case rel => exact ⟨j + 1, true, rfl, by go_num, by omega, by rw [take_mem hj2]; exact ⟨fun h => .inl ((unhide HY).1 h), fun _ => rfl⟩⟩
              case measure => simp [intOf]; omega
            | false =>
              have hno : ¬ k ∈ ps.take j := fun h => by have := (unhide HY).2 h; cases this
              have hcq : ∃ q, vo = some ⟨q, 0, none⟩ ∧ w'.cell? ⟨q, j, none⟩ = some (.int .i64 ((cf ps j : Nat) : Int)) := by
                rcases unhide HSH with ⟨_, h⟩ | ⟨q, h1, h2⟩
                · rw [h] at hj2; simp at hj2
                · exact ⟨q, h1, h2 j hj2⟩
              obtain ⟨q, rfl, hcq⟩ := hcq
              by_cases he : cf ps j = k
              · have he1 : (((cf ps j : Nat) : Int) == (k : Int)) = true := by rw [he]; simp
                go_wp2_with fail
                go_round
                case rel => exact ⟨j + 1, true, rfl, by go_num, by omega, by rw [take_mem hj2]; exact ⟨fun _ => .inr he, fun _ => rfl⟩⟩
                case measure => simp [intOf]; omega
              · have he1 : (((cf ps j : Nat) : Int) == (k : Int)) = false := by rw [beq_eq_false_iff_ne]; omega
                go_wp2_with fail
                go_round
                case rel => exact ⟨j + 1, false, rfl, by go_num, by omega, by rw [take_mem hj2]; exact ⟨fun h => (by cases h), fun h => h.elim (fun h => absurd h hno) (fun h => absurd h he)⟩⟩
                case measure => simp [intOf]; omega
          · have hj3 : j = ps.length := by omega
            subst hj3
            have hy := unhide HY
            rw [List.take_length] at hy
            cases y with
            | true =>
              go_wp2_with fail
              go_roundw
              case rel => exact ⟨i + 1, ps, _, rfl, by go_num, by omega, unhide HND, unhide H224, hpl, unhide HO, unhide HK⟩
              case measure => simp [intOf]; omega
            | false =>
              have hno : ¬ k ∈ ps := fun h => by have := hy.2 h; cases this
              have HNO := hide hno
              clear hy hno
              have HO2 : Hid (OwnI w.heap.size (w'.alloc (.cells #[.int .i64 (k : Int)] 3)) (.slice vo ps.length vc) ps) := (unhide HO).keep (fun b _ hb => Below.heap_alloc _ _ _ hb)
              have HC2 := hide (cell_new' w' (.int .i64 (k : Int)) 3).1
              have HK2 := hide ((unhide HK).alloc (.cells #[.int .i64 (k : Int)] 3))
              go_wp2_with (at_builtin; refine wpList_append_int _ rfl _ _ 34 rfl w.heap.size 3 i0 Tryz.underlying34 (unhide HI) hz0 hz1 hz2 (.slice vo ps.length vc) ps.length _ rfl (unhide HO2) w'.heap.size (k : Int) rfl (unhide HC2) (by omega) (by simp; omega) ?_)
              intro v2 w2 ho hg
              have HO3 := hide (OwnI.snoc ho)
              have HK3 := hide ((unhide HK2).grown hg (fun b e => by
                have hsh := unhide HO2
                rcases hsh.shape with ⟨h1, _⟩ | ⟨q, cq, h1, h2, _⟩
                · rw [h1] at e; cases e
                · rw [h1] at e; cases e; exact .inr h2))
              clear ho hg
              go_wp2_with fail
              go_roundw
              case rel => exact ⟨i + 1, ps ++ [k], _, rfl, by go_num, by omega, List.nodup_append.2 ⟨unhide HND, by simp, by simp; intro a ha e; exact unhide HNO (e ▸ ha)⟩, by
                intro a ha
                rcases List.mem_append.1 ha with h | h
                · exact unhide H224 a h
                · rw [List.mem_singleton.1 h]; exact hk2, by simp; omega, unhide HO3, unhide HK3⟩
              case measure => simp [intOf]; omega
      · have hm1 : (most : Int) ≤ (ps.length : Int) := by omega
        go_wp2
        go_ret
        exact ⟨_, ps, rfl, unhide HND, unhide H224, hpl, unhide HO, (unhide HK).below⟩
    · have hi2 : i = len := by omega
      subst hi2
      go_wp2
      go_ret
      exact ⟨_, ps, rfl, unhide HND, unhide H224, hpl, unhide HO, (unhide HK).below⟩

end Go.Proofs.YtjdikhelabibnaaGreat
