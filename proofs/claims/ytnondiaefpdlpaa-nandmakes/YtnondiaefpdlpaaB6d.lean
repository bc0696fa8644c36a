/-
  bits.Apart.
-/
import Derived.Test.YtnondiaefpdlpaaB6b
import Derived.Test.YtnondiaefpdlpaaB6c
namespace Go.Proofs.Ytnondiaefpdlpaa
open Go.RowKit Go.Shelf

/-- Where two differ: nothing, if they are not of as many bytes. -/
def apL (a b : List Nat) : List Nat := if a.length = b.length then onF (fun i => cf a i ^^^ cf b i) a.length else []

set_option maxRecDepth 100000 in
set_option maxHeartbeats 2000000 in
theorem apart_any (u v : Value) (ga gb : Nat) (a b : List Nat) (w : World) (hA : Arg w u ga a) (hB : Arg w v gb b) (hla : a.length = b.length → a.length ≤ 1000) :
    Calls Try.prog 73 #[u, v] w fun e w' => ∃ r, e = .returned r ∧ OwnI w.heap.size w' r (apL a b) ∧ Below w.heap.size w w' := by
  obtain ⟨⟨ao, ca, rfl, hc1, hc2, hnila, hra⟩, hba⟩ := hA
  obtain ⟨⟨bo, cb, rfl, hd1, hd2, hnilb, hrb⟩, hbb⟩ := hB
  have HRA := hide hra
  have HRB := hide hrb
  clear hra hrb hnila hnilb
  by_cases hl : a.length = b.length
  · have hap : apL a b = onF (fun i => cf a i ^^^ cf b i) a.length := if_pos hl
    rw [hap]
    clear hap
    obtain ⟨N, hN⟩ : ∃ N, a.length = N := ⟨_, rfl⟩
    have hN2 : b.length = N := by rw [← hl]; exact hN
    rw [hN] at hc1 hla ⊢
    rw [hN2] at hd1 ⊢
    have hN3 := hla hN2.symm
    have HL1 := hide hN
    have HL2 := hide hN2
    clear hl hN hN2 hla
    go_enter Try.func73, Try.ntmps73
    go_wp2_with fail
    refine (joined_any _ _ w ⟨_, _, _, rfl⟩ ⟨_, _, _, rfl⟩).mono ?_
    rintro e w1 ⟨rfl, hcap, hz1, hk1⟩
    have HK1 := hide hk1
    have HCAP := hide hcap
    have HZ1 := hide hz1
    clear hcap hk1 hz1
    go_wp2_with fail
    refine (ones_any _ _ w1).mono ?_
    rintro e w2 ⟨rfl, hc2', hz2, hk2⟩
    have hz1 := unhide HZ1
    have HS : Hid (SeqY Try.prog 84 #[.pointer (some ⟨w1.heap.size, 0, none⟩)] (fun x : Fin N × Fin 8 => #[.int .i64 (pl8 x : Nat)]) (fun k => k < w2.heap.size) (3 + 0) (fun xs => xs.map pl8 = onF (fun i => cf a i ^^^ cf b i) N) (8 * N) w2) := by
      refine (ones_x (fun k => k < w2.heap.size) 0 w1.heap.size N 85 _ _ (fun i => xor_lt (hba i) (hbb i)) (by omega) w2 hc2' (fun _ h => h) ?_)
      have hq := joined_x (fun k => k < w2.heap.size) w.heap.size (w.heap.size + 1) (w.heap.size + 1 + 1) ao bo ga gb ca cb N a b (unhide HL1) (unhide HL2) hba hbb (by omega) w1 (unhide HCAP) ((unhide HRA).below (unhide HK1)) ((unhide HRB).below (unhide HK1)) (by omega) (by omega)
        (fun h => by have := (unhide HRA).block_lt h; omega) (fun h => by have := (unhide HRB).block_lt h; omega)
      exact ⟨hq.enters, hq.seq.below hk2⟩
    have HK2 := hide ((unhide HK1).trans (hk2.mono (by omega)))
    clear hc2' hz2 hk2 hz1
    go_wp2_with fail
    refine (collect_any 84 _ pl8 _ (8 * N) _ (by omega) w2 (enters_of Try.func84 (by kernel_rfl) rfl) (unhide HS)).mono ?_
    rintro e w3 ⟨r, xs, rfl, hxs, hO, hk3⟩
    rw [hxs] at hO
    have hK := unhide HK2
    have HO := hide (hO.mono (b' := w.heap.size) hK.size)
    have HK3 := hide (hK.trans (hk3.mono hK.size))
    clear hxs hO hk3 hK
    go_wp2
    go_ret
    exact ⟨r, rfl, unhide HO, unhide HK3⟩
  · have hap : apL a b = [] := if_neg hl
    rw [hap]
    have hne : (((a.length : Nat) : Int) != ((b.length : Nat) : Int)) = true := by rw [bne_iff_ne]; omega
    clear hap hl
    go_enter Try.func73, Try.ntmps73
    go_wp2_with fail
    go_ret
    exact ⟨_, rfl, OwnI.nil _ _, Below.refl _ _⟩

end Go.Proofs.Ytnondiaefpdlpaa
