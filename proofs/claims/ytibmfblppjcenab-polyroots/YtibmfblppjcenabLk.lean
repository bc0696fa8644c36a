/-
  What the laws of stage 3 share: bytes as a string, arguments as they come in, known.
-/
import Derived.Test.YtibmfblppjcenabPd
import Derived.Test.YtibmfblppjcenabPe
import Derived.Test.YtibmfblppjcenabPn
import Derived.Laws.BytesString
namespace Go.Proofs.Ytibmfblppjcenab
open Go.RowKit

/-- The string of such bytes. -/
def strOf (zs : List Int) : ByteArray := zs.foldl (fun r n => r.push (UInt8.ofNat n.toNat)) ByteArray.empty

theorem run_conv (w : World) (ao : Option Addr) (g n c : Nat) (zs : List Int) (hl : zs.length = n) (hr : Row w ao g zs) :
    (convert 24 9 (.slice ao n c)).run Try.prog w = .ok (.string (strOf zs)) w := by
  rw [run_convert_bytes_string w 24 9 5 ao n c Try.underlying24 Try.underlying5 Try.underlying9]
  cases ao with
  | none =>
    have h0 : zs = [] := by
      rcases hr with h | ⟨o, h, _⟩
      · exact h
      · cases h
    subst h0
    simp [Conv.bytesToString, strOf, Sem.run_pure]
  | some ad =>
    refine run_bytesToString w ad n c zs ?_
    have := run_loadCells_list (P := Try.prog) w ad (zs.map (Value.int .u8)) (fun j v hv => by
      obtain ⟨hj, hv⟩ := List.getElem?_eq_some_iff.1 hv
      simp only [List.length_map] at hj
      rcases hr with rfl | ⟨o, ho, hc⟩
      · simp at hj
      · cases ho
        rw [Addr.add_lit, hc j hj]
        simp [← hv, List.getD_eq_getElem?_getD, hj])
    rw [List.length_map, hl] at this
    exact this

theorem conv_arg {w : World} {ao : Option Addr} {n c g : Nat} {s : List Nat} (h : Arg w (.slice ao n c) g s) : (convert 24 9 (.slice ao n c)).run Try.prog w = .ok (.string (strOf (ints s))) w := by
  obtain ⟨⟨ao', c', h1, h2, h3, h4, h5⟩, _⟩ := h
  cases h1
  exact run_conv w ao g s.length c (ints s) (ints_len s) h5

/-- As naturals. -/
def nats (zs : List Int) : List Nat := zs.map Int.toNat
theorem ints_nats {zs : List Int} (h : Byt zs) : ints (nats zs) = zs := by
  unfold ints nats
  rw [List.map_map]
  conv => rhs; rw [← List.map_id zs]
  refine List.map_congr_left (fun z hz => ?_)
  have := h z hz
  simp only [Function.comp, id]
  omega
theorem nats_bs {zs : List Int} (h : Byt zs) : Bs (nats zs) := Bs.of (fun x hx => by
  obtain ⟨z, hz, rfl⟩ := List.mem_map.1 hx
  have := h z hz
  omega)
theorem arg_in {w : World} {ao : Option Addr} {g len cap : Nat} {zs : List Int} (l : zs.length = len) (r : Row w ao g zs) (b : Byt zs) (c : len ≤ cap) (n : ao = none → len = 0 ∧ cap = 0) (m : cap ≤ maxLen) : Arg w (.slice ao len cap) g (nats zs) := by
  have hl : (nats zs).length = len := by simp [nats, l]
  refine ⟨⟨ao, cap, by rw [hl], by omega, m, fun h => (n h).2, ?_⟩, nats_bs b⟩
  rw [ints_nats b]
  exact r

theorem minP_one : minP 1 = [1, 0, 1, 1, 1, 0, 0, 0, 1] := by decide +kernel

set_option maxRecDepth 100000 in
set_option maxHeartbeats 2000000 in
theorem known_any (w : World) : Calls Try.prog 4 #[] w fun e w' => e = .returned (.bool true) ∧ Below w.heap.size w w' := by
  go_enter Try.func4, Try.ntmps4
  go_wp2_with fail
  refine (minimal_any 1 w).mono ?_
  rintro e w1 ⟨v, rfl, hF, hk⟩
  rw [show ((1 : Int) % 255).toNat = 1 from rfl, minP_one] at hF
  have hv : ∃ g c, v = .slice (some ⟨g, 0, none⟩) 9 c ∧ Blk w1 g [1, 0, 1, 1, 1, 0, 0, 0, 1] := by
    rcases hF with ⟨h, _⟩ | ⟨g, c, h1, h2, h3, h4, h5⟩
    · cases h
    · exact ⟨g, c, h1, h4⟩
  obtain ⟨g, c, rfl, hB⟩ := hv
  have c0 : w1.cell? ⟨g, 0, none⟩ = some (.int .u8 1) := hB.cell (j := 0) (by simp)
  have c2 : w1.cell? ⟨g, 2, none⟩ = some (.int .u8 1) := hB.cell (j := 2) (by simp)
  have c3 : w1.cell? ⟨g, 3, none⟩ = some (.int .u8 1) := hB.cell (j := 3) (by simp)
  have c4 : w1.cell? ⟨g, 4, none⟩ = some (.int .u8 1) := hB.cell (j := 4) (by simp)
  have c8 : w1.cell? ⟨g, 8, none⟩ = some (.int .u8 1) := hB.cell (j := 8) (by simp)
  have HK := hide hk
  clear hB hF hk
  go_wp2
  go_ret
  exact ⟨rfl, unhide HK⟩

theorem len_add (a b : List Nat) : (trim (padd a b)).length ≤ a.length + b.length := trim_short (fun i hi => by rw [cf_padd, cf_ge (p := a) (by omega), cf_ge (p := b) (by omega)]; rfl)
theorem len_mul (a b : List Nat) : (trim (pmul a b)).length ≤ a.length + b.length := trim_short (fun i hi => cf_pmul_ge (by omega))
theorem IsDiv.len {a b q r : List Nat} (hb : Bs b) (h : IsDiv a b q r) : q.length ≤ a.length ∧ r.length ≤ b.length := by
  have h1 := h.lt
  have h2 := trim_len b
  refine ⟨?_, by omega⟩
  by_cases hq : q = []
  · rw [hq]; simp
  · have hl := List.length_pos_iff.2 hq
    have hn := pmul_trim_ne h.bq hb (m := q.length - 1) (n := (trim b).length - 1) (by rw [h.tq]; omega) (by omega)
    have he := h.eq (q.length - 1 + ((trim b).length - 1))
    rw [cf_padd, cf_ge (p := r) (by omega), Nat.xor_zero] at he
    rw [he] at hn
    by_cases ha : q.length ≤ a.length
    · exact ha
    · exact absurd (cf_ge (by omega)) hn

end Go.Proofs.Ytibmfblppjcenab
