/-
  
-/
import Derived.Test.YtjdikhelabibnaaGreatMat
import Derived.WalkKit
import Derived.ProofKit
import Derived.OpenShut
import Derived.Deep.Strs
import Derived.Deep.Slices
import Derived.Test.YtjdikhelabibnaaGreatMar
namespace Go.Proofs.YtjdikhelabibnaaGreat
open Go Go.RowKit
section
variable {H : Type} {enc : TypeId × Value → H} {w : World} {base : Nat} {spare : Nat → Bool} {held : Bool} {fuel : Nat} {cs : List Value} {x : DataW H × List MemPlace}
theorem cells_I10 : Tryz.prog.cellsOf 3 = 1 := by kernel_rfl
theorem cells_E10 : Tryz.prog.cellsOf 5 = 1 := by kernel_rfl
theorem cells_TD10 : Tryz.prog.cellsOf 42 = 16 := by kernel_rfl
theorem cells_TE10 : Tryz.prog.cellsOf 44 = 19 := by kernel_rfl
theorem one_of10 {cs : List Value} {o : Nat} {v : Value} (h : (cs.drop o).take 1 = [v]) : cs[o]? = some v := by
 have := congrArg (fun l => l[0]?) h
 simpa [List.getElem?_take, List.getElem?_drop] using this
set_option maxRecDepth 100000 in
theorem open_ent (h : DataW.trod enc Tryz.prog w base spare held fuel 44 cs = some x) : ∃ (k l s : Int) (d : List Nat), cs = (entA k l s d).toList ∧ d.length = 16 ∧ ∀ j, cf d j < 256 := by
 obtain ⟨xs, n, _, _, hl, hlen, hf⟩ := DataW.trod_struct Tryz.underlying44 h
 rw [cells_TE10] at hl
 match xs, hlen with
 | [y0, y1, y2, y3], _ =>
  obtain ⟨k, e0, _⟩ := DataW.trod_int Tryz.underlying3 (by simpa using hf 0 _ rfl)
  obtain ⟨l, e1, _⟩ := DataW.trod_int Tryz.underlying3 (by simpa using hf 1 _ rfl)
  obtain ⟨s, e2, _⟩ := DataW.trod_int Tryz.underlying3 (by simpa using hf 2 _ rfl)
  obtain ⟨ys, m, _, _, hl2, hn2, hf2⟩ := DataW.trod_array Tryz.underlying42 (by simpa using hf 3 _ rfl)
  rw [cells_I10] at e0 e1 e2
  rw [cells_TD10] at hl2 hf2
  have key : ∀ i, i < 16 → ∃ b : Nat, b < 256 ∧ cs[3 + i]? = some (.int .u8 (b : Int)) := by
   intro i hi
   have hy : ys[i]? = some (ys[i]'(by omega)) := List.getElem?_eq_getElem (by omega)
   obtain ⟨b, e, _, hw⟩ := DataW.trod_int Tryz.underlying5 ((hf2 i hi).trans hy)
   rw [cells_E10] at e
   have h1 := one_of10 e
   rw [Nat.mul_one, List.getElem?_take, if_pos hi, List.getElem?_drop] at h1
   have hb : 0 ≤ b ∧ b < 256 := by
    have h2 : (decide (IntKind.u8.min ≤ b) && decide (b ≤ IntKind.u8.max)) = true := hw
    rw [Bool.and_eq_true, decide_eq_true_eq, decide_eq_true_eq, show IntKind.u8.min = 0 from rfl, show IntKind.u8.max = 255 from rfl] at h2
    omega
   exact ⟨b.toNat, by omega, by rw [h1, Int.toNat_of_nonneg hb.1]⟩
  let g : Nat → Nat := fun i => if h : i < 16 then Classical.choose (key i h) else 0
  have hg : ∀ i (h : i < 16), g i < 256 ∧ cs[3 + i]? = some (.int .u8 ((g i : Nat) : Int)) := fun i h => by
   have := Classical.choose_spec (key i h)
   simpa [g, h] using this
  have hlen16 : ((List.range 16).map g).length = 16 := by simp
  have hcf : ∀ j, j < 16 → cf ((List.range 16).map g) j = g j := fun j hj => by
   have h1 : j < ((List.range 16).map g).length := by rw [hlen16]; exact hj
   have h2 := cf_get h1
   rw [List.getElem?_map, List.getElem?_range hj] at h2
   exact (Option.some.inj h2).symm
  refine ⟨k, l, s, (List.range 16).map g, ?_, hlen16, fun j => ?_⟩
  ·refine List.ext_getElem? (fun j => ?_)
   match j with
   | 0 => exact one_of10 e0
   | 1 => exact one_of10 (by rw [← List.drop_one] at e1; exact e1)
   | 2 => exact one_of10 e2
   | j + 3 =>
    have hr : (entA k l s ((List.range 16).map g)).toList[3 + j]? = (datL ((List.range 16).map g))[j]? := by rw [← entA_d k l s]; simp
    rw [show j + 3 = 3 + j from by omega, hr]
    by_cases hj : j < 16
    ·rw [(hg j hj).2, datL_get (by rw [hlen16]; exact hj), hcf j hj]
    rw [List.getElem?_eq_none (by omega), List.getElem?_eq_none (by rw [datL_len, hlen16]; omega)]
  by_cases hj : j < 16
  ·rw [hcf j hj]; exact (hg j hj).1
  rw [cf_ge (by rw [hlen16]; omega)]; omega
end
end Go.Proofs.YtjdikhelabibnaaGreat

namespace Go.Proofs.YtjdikhelabibnaaGreat
open Go.RowKit Go.Shelf
attribute [local go_sem] Oper.semAt_some
abbrev Ent10 (f : Nat) : Prop := ∀ args W, (callFunc f args).run Tryz.prog W = .ok (.enter f args) W
def AtI (f off : Nat) : Prop := ∀ B W, Calls Tryz.prog f #[.pointer (some ⟨B, 0, none⟩)] W fun e W' => e = .returned (.pointer (some ⟨B, off, none⟩)) ∧ W' = W
def AtS (f off m : Nat) : Prop := ∀ B W, Calls Tryz.prog f #[.pointer (some ⟨B, 0, none⟩)] W fun e W' => e = .returned (.slice (some ⟨B, off, none⟩) m m) ∧ W' = W
theorem ints_take10 {d : List Nat} {k : Nat} (h : k < d.length) : ints (d.take (k + 1)) = ints (d.take k) ++ [((cf d k : Nat) : Int)] := by
 rw [List.take_add_one, cf_get h]
 simp [ints]
theorem by8_one10 {x : Nat} (h : x < 256) : by8 1 (IntKind.u64.wrap (wrap64 (x : Int))) = [(x : Int)] := by
 rw [IntKind.wrap_u64]
 simp only [by8, wrap64, List.cons.injEq, and_true]
 omega
set_option maxRecDepth 100000 in
set_option maxHeartbeats 4000000 in
theorem put_numH (atf C B off : Nat) (v : Int) (a : Option Addr) (g n c : Nat) (zs : List Int) (w : World) (hn : n ≤ 1000) (hl : zs.length = n) (hr : Row w a g zs) (he : Ent10 atf) (hat : AtI atf off)
  (hC : w.cell? ⟨C, 0, none⟩ = some (.func (.func atf) #[] #[])) (hB : w.cell? ⟨B, off, none⟩ = some (.int .i64 v)) :
  Calls Tryz.prog 114 #[.slice a n c, .pointer (some ⟨B, 0, none⟩), .pointer (some ⟨C, 0, none⟩)] w fun e w' => ∃ q, e = .returned (.slice (some ⟨q, 0, none⟩) (n + 8) (n + 8)) ∧ w.heap.size ≤ q ∧
   w'.ownsRow w.heap.size 5 1 (.slice (some ⟨q, 0, none⟩) (n + 8) (n + 8)) (n + 8) ((zs ++ by8 8 (IntKind.u64.wrap v)).map (Value.int .u8)) ∧ Kp [] w w' := by
 have HR := hide hr
 have HAT := hide hat
 clear hr hat
 go_enter Tryz.func114, Tryz.ntmps114
 go_wp2_with fail
 refine (uh HAT B w).mono ?_
 rintro x w1 ⟨rfl, rfl⟩
 go_wp2_with fail
 refine (int_any a g n c v zs _ (by omega) hl (uh HR)).mono ?_
 rintro x w2 ⟨q, rfl, hq, ho, hk⟩
 have HO := hide ho
 have HK := hide hk
 clear ho hk
 go_wp2
 go_ret
 exact ⟨q, rfl, hq, uh HO, uh HK⟩
set_option maxRecDepth 100000 in
set_option maxHeartbeats 4000000 in
theorem put_lowH (atf C B off : Nat) (v : Int) (a : Option Addr) (g n c : Nat) (zs : List Int) (w : World) (hn : n ≤ 1000) (hl : zs.length = n) (hr : Row w a g zs) (he : Ent10 atf) (hat : AtI atf off)
  (hC : w.cell? ⟨C, 0, none⟩ = some (.func (.func atf) #[] #[])) (hB : w.cell? ⟨B, off, none⟩ = some (.int .i64 v)) :
  Calls Tryz.prog 118 #[.slice a n c, .pointer (some ⟨B, 0, none⟩), .pointer (some ⟨C, 0, none⟩)] w fun e w' => ∃ q, e = .returned (.slice (some ⟨q, 0, none⟩) (n + 1) (n + 1)) ∧ w.heap.size ≤ q ∧
   w'.ownsRow w.heap.size 5 1 (.slice (some ⟨q, 0, none⟩) (n + 1) (n + 1)) (n + 1) ((zs ++ by8 1 (IntKind.u64.wrap v)).map (Value.int .u8)) ∧ Kp [] w w' := by
 have HR := hide hr
 have HAT := hide hat
 clear hr hat
 go_enter Tryz.func118, Tryz.ntmps118
 go_wp2_with fail
 refine (uh HAT B w).mono ?_
 rintro x w1 ⟨rfl, rfl⟩
 go_wp2_with fail
 refine (byte_any a g n c v zs _ (by omega) hl (uh HR)).mono ?_
 rintro x w2 ⟨q, rfl, hq, ho, hk⟩
 have HO := hide ho
 have HK := hide hk
 clear ho hk
 go_wp2
 go_ret
 exact ⟨q, rfl, hq, uh HO, uh HK⟩
set_option maxRecDepth 100000 in
set_option maxHeartbeats 4000000 in
theorem put_numE (atf C B off : Nat) (v : Int) (a : Option Addr) (g n c : Nat) (zs : List Int) (w : World) (hn : n ≤ 1000) (hl : zs.length = n) (hr : Row w a g zs) (he : Ent10 atf) (hat : AtI atf off)
  (hC : w.cell? ⟨C, 0, none⟩ = some (.func (.func atf) #[] #[])) (hB : w.cell? ⟨B, off, none⟩ = some (.int .i64 v)) :
  Calls Tryz.prog 124 #[.slice a n c, .pointer (some ⟨B, 0, none⟩), .pointer (some ⟨C, 0, none⟩)] w fun e w' => ∃ q, e = .returned (.slice (some ⟨q, 0, none⟩) (n + 8) (n + 8)) ∧ w.heap.size ≤ q ∧
   w'.ownsRow w.heap.size 5 1 (.slice (some ⟨q, 0, none⟩) (n + 8) (n + 8)) (n + 8) ((zs ++ by8 8 (IntKind.u64.wrap v)).map (Value.int .u8)) ∧ Kp [] w w' := by
 have HR := hide hr
 have HAT := hide hat
 clear hr hat
 go_enter Tryz.func124, Tryz.ntmps124
 go_wp2_with fail
 refine (uh HAT B w).mono ?_
 rintro x w1 ⟨rfl, rfl⟩
 go_wp2_with fail
 refine (int_any a g n c v zs _ (by omega) hl (uh HR)).mono ?_
 rintro x w2 ⟨q, rfl, hq, ho, hk⟩
 have HO := hide ho
 have HK := hide hk
 clear ho hk
 go_wp2
 go_ret
 exact ⟨q, rfl, hq, uh HO, uh HK⟩
set_option maxRecDepth 100000 in
set_option maxHeartbeats 4000000 in
theorem put_lowE (atf C B off : Nat) (v : Int) (a : Option Addr) (g n c : Nat) (zs : List Int) (w : World) (hn : n ≤ 1000) (hl : zs.length = n) (hr : Row w a g zs) (he : Ent10 atf) (hat : AtI atf off)
  (hC : w.cell? ⟨C, 0, none⟩ = some (.func (.func atf) #[] #[])) (hB : w.cell? ⟨B, off, none⟩ = some (.int .i64 v)) :
  Calls Tryz.prog 122 #[.slice a n c, .pointer (some ⟨B, 0, none⟩), .pointer (some ⟨C, 0, none⟩)] w fun e w' => ∃ q, e = .returned (.slice (some ⟨q, 0, none⟩) (n + 1) (n + 1)) ∧ w.heap.size ≤ q ∧
   w'.ownsRow w.heap.size 5 1 (.slice (some ⟨q, 0, none⟩) (n + 1) (n + 1)) (n + 1) ((zs ++ by8 1 (IntKind.u64.wrap v)).map (Value.int .u8)) ∧ Kp [] w w' := by
 have HR := hide hr
 have HAT := hide hat
 clear hr hat
 go_enter Tryz.func122, Tryz.ntmps122
 go_wp2_with fail
 refine (uh HAT B w).mono ?_
 rintro x w1 ⟨rfl, rfl⟩
 go_wp2_with fail
 refine (byte_any a g n c v zs _ (by omega) hl (uh HR)).mono ?_
 rintro x w2 ⟨q, rfl, hq, ho, hk⟩
 have HO := hide ho
 have HK := hide hk
 clear ho hk
 go_wp2
 go_ret
 exact ⟨q, rfl, hq, uh HO, uh HK⟩
end Go.Proofs.YtjdikhelabibnaaGreat

namespace Go.Proofs.YtjdikhelabibnaaGreat
open Go.RowKit
def rs1 (k : Nat) (s : List Int × Int) : List Int × Int := (rdZ k s.1 s.2, rdE k s.1 s.2)
def rdL : List Nat → List Int × Int → List Int
 | [], _ => []
 | k :: ks, s => rdV k s.1 :: rdL ks (rs1 k s)
def rdS : List Nat → List Int × Int → List Int × Int
 | [], s => s
 | k :: ks, s => rdS ks (rs1 k s)
theorem rdL_len (ks : List Nat) : ∀ s, (rdL ks s).length = ks.length := by
 induction ks with
 | nil => intro s; rfl
 | cons k ks ih => intro s; simp [rdL, ih]
theorem rdL_app (ks ls : List Nat) : ∀ s, rdL (ks ++ ls) s = rdL ks s ++ rdL ls (rdS ks s) := by
 induction ks with
 | nil => intro s; rfl
 | cons k ks ih => intro s; simp [rdL, rdS, ih]
theorem rdS_app (ks ls : List Nat) : ∀ s, rdS (ks ++ ls) s = rdS ls (rdS ks s) := by
 induction ks with
 | nil => intro s; rfl
 | cons k ks ih => intro s; simp [rdS, ih]
theorem byt_drop10 {zs : List Int} (h : Byt zs) (n : Nat) : Byt (zs.drop n) := fun z hz => h z (List.mem_of_mem_drop hz)
theorem byt_rs1 {k : Nat} {s : List Int × Int} (h : Byt s.1) : Byt (rs1 k s).1 := by
 unfold rs1 rdZ
 dsimp only
 split
 ·exact byt_drop10 h _
 split
 ·intro z hz; simp at hz
 exact h
theorem byt_rdS {ks : List Nat} : ∀ {s : List Int × Int}, Byt s.1 → Byt (rdS ks s).1 := by
 induction ks with
 | nil => intro s h; exact h
 | cons k ks ih => intro s h; exact ih (byt_rs1 h)
theorem rdV_one {zs : List Int} (h : Byt zs) : rdV 1 zs = zs.headD 0 ∧ 0 ≤ rdV 1 zs ∧ rdV 1 zs ≤ 255 := by
 unfold rdV
 match zs, h with
 | [], _ => simp
 | z :: l, h =>
  have hz := h z (by simp)
  have e : wrap64 (le ((z :: l).take 1)) = z := by
   simp only [List.take_succ_cons, List.take_zero, le, wrap64]
   omega
  rw [if_pos (by simp), e]
  exact ⟨rfl, hz.1, hz.2⟩
def csets (cs : Array Value) (o : Nat) : List Value → Array Value
 | [] => cs
 | v :: vs => csets (cs.setIfInBounds o v) (o + 1) vs
theorem csets_size (vs : List Value) : ∀ (cs : Array Value) (o : Nat), (csets cs o vs).size = cs.size := by
 induction vs with
 | nil => intro cs o; rfl
 | cons v vs ih => intro cs o; rw [csets, ih, Array.size_setIfInBounds]
theorem csets_snoc (v : Value) (vs : List Value) : ∀ (cs : Array Value) (o : Nat), csets cs o (vs ++ [v]) = (csets cs o vs).setIfInBounds (o + vs.length) v := by
 induction vs with
 | nil => intro cs o; rfl
 | cons u vs ih =>
  intro cs o
  rw [List.cons_append, csets, ih, csets, List.length_cons]
  congr 1
  omega
theorem csets_beyond (vs : List Value) : ∀ (cs : Array Value) (o j : Nat), o + vs.length ≤ j → (csets cs o vs)[j]? = cs[j]? := by
 induction vs with
 | nil => intro cs o j _; rfl
 | cons u vs ih =>
  intro cs o j h
  rw [List.length_cons] at h
  rw [csets, ih _ _ _ (by omega), Array.getElem?_setIfInBounds, if_neg (by omega)]
def szH : List Nat := [8, 1, 1, 1]
def szE : List Nat := [1, 8, 8] ++ List.replicate 16 1
def szT : List Nat := List.replicate 4 1
def nat10 (l : List Int) : List Nat := l.map Int.toNat
theorem ints_nat10 {l : List Int} (h : ∀ z ∈ l, 0 ≤ z) : ints (nat10 l) = l := by
 induction l with
 | nil => rfl
 | cons z l ih =>
  have hz := h z (by simp)
  have e : ints (nat10 (z :: l)) = (z.toNat : Int) :: ints (nat10 l) := rfl
  rw [e, ih (fun x hx => h x (by simp [hx]))]
  congr 1
  omega
theorem rd_ones {n : Nat} : ∀ {s : List Int × Int}, Byt s.1 → ∀ z ∈ rdL (List.replicate n 1) s, 0 ≤ z ∧ z ≤ 255 := by
 induction n with
 | zero => intro s _ z hz; simp [rdL] at hz
 | succ n ih =>
  intro s h z hz
  rw [List.replicate_succ, rdL, List.mem_cons] at hz
  rcases hz with rfl | hz
  ·exact (rdV_one h).2
  exact ih (byt_rs1 h) z hz
def st1 (zs : List Int) := rdS szH (zs, 0)
def st2 (zs : List Int) := rdS szE (st1 zs)
def st3 (zs : List Int) := rdS szT (st2 zs)
def pH (zs : List Int) : List Int := rdL szH (zs, 0)
def pE (zs : List Int) : List Int := rdL szE (st1 zs)
def pT (zs : List Int) : List Int := rdL szT (st2 zs)
def pD (zs : List Int) : List Nat := nat10 ((pE zs).drop 3)
def cod (zs : List Int) : Int := if (st3 zs).2 = 0 ∧ (st3 zs).1 ≠ [] then 4 else (st3 zs).2
def badP (zs : List Int) : Prop := pT zs ≠ [0, 0, 0, 0] ∨ ¬ (1 ≤ (pH zs).getD 0 0 ∧ (pH zs).getD 0 0 ≤ 1099511627776) ∨ ¬ okE ((pE zs).getD 0 0) ((pE zs).getD 1 0) ((pE zs).getD 2 0) (pD zs)
open Classical in
noncomputable def parE (zs : List Int) : Int := if cod zs ≠ 0 then cod zs else if badP zs then 5 else 0
open Classical in
noncomputable def parH (zs : List Int) (j : Nat) : Int := if parE zs = 0 then (pH zs).getD j 0 else 0
open Classical in
noncomputable def parN (zs : List Int) (j : Nat) : Int := if parE zs = 0 then (pE zs).getD j 0 else 0
open Classical in
noncomputable def parD (zs : List Int) : List Nat := if parE zs = 0 then pD zs else zer16
theorem pE_len (zs : List Int) : (pE zs).length = 19 := by unfold pE; rw [rdL_len]; rfl
theorem pT_len (zs : List Int) : (pT zs).length = 4 := by unfold pT; rw [rdL_len]; rfl
theorem pD_len (zs : List Int) : (pD zs).length = 16 := by unfold pD nat10; rw [List.length_map, List.length_drop, pE_len]
theorem parD_len (zs : List Int) : (parD zs).length = 16 := by unfold parD; split; exact pD_len zs; exact zer16_len
end Go.Proofs.YtjdikhelabibnaaGreat

namespace Go.Proofs.YtjdikhelabibnaaGreat
open Go.RowKit Go.Shelf
attribute [local go_sem] Oper.semAt_some
set_option maxRecDepth 100000 in
set_option maxHeartbeats 4000000 in
theorem take_numH (atf C B off R g : Nat) (cs : Array Value) (ty : TypeId) (zs : List Int) (e : Int) (w : World) (he : Ent10 atf) (hat : AtI atf off)
  (hC : w.cell? ⟨C, 0, none⟩ = some (.func (.func atf) #[] #[])) (x0 : Int) (hx0 : cs[off]? = some (.int .i64 x0)) (hB : w.heap[B]? = some (.cells cs ty (0, 0))) (hby : Byt zs) (hR : Rd 186 w R g zs e) (hBR : B ≠ R) :
  Calls Tryz.prog 116 #[.pointer (some ⟨R, 0, none⟩), .pointer (some ⟨B, 0, none⟩), .pointer (some ⟨C, 0, none⟩)] w fun x w' => x = .returned (.tuple #[]) ∧ (B ≠ g → Rd 186 w' R g (rdZ 8 zs e) (rdE 8 zs e)) ∧
   w'.heap[B]? = some (.cells (cs.setIfInBounds off (.int .i64 (rdV 8 zs))) ty (0, 0)) ∧ Kp [R, B] w w' := by
 have HR := hide hR
 have HB := hide hB
 have HAT := hide hat
 have HY := hide hby
 have HX := hide hx0
 clear hR hat hB hby hx0
 go_enter Tryz.func116, Tryz.ntmps116
 go_wp2_with fail
 refine (uh HAT B w).mono ?_
 rintro x w1 ⟨rfl, rfl⟩
 go_wp2_with fail
 refine (rint_any R g zs e _ (uh HY) (uh HR)).mono ?_
 rintro x w2 ⟨rfl, hr2, hk2⟩
 have HR2 := hide hr2
 have HK2 := hide hk2
 have HB2 := hide (hk2.heap (uh HB) (by simpa using hBR))
 have hc2 : w2.cell? ⟨B, off, none⟩ = some (.int .i64 x0) := cell_blk (uh HB2) (uh HX)
 have hf2 : w2.frozen? ⟨B, off, none⟩ = false := free_of_two (uh HB2)
 clear hr2 hk2
 go_wp2
 go_end0
 have hk3 : Kp [B] w2 (w2.setCell ⟨B, off, none⟩ (.int .i64 (rdV 8 zs))) := (Kp.refl _ _).setCell _ _ (.inl (by simp))
 refine ⟨rfl, fun hBg => (uh HR2).keep hk3 (by simpa using hBR.symm) (by simpa using hBg.symm), heap_setCell_same _ _ _ _ _ _ (uh HB2), ?_⟩
 exact ((uh HK2).mono (by simp)).trans hk3 (by simp)
set_option maxRecDepth 100000 in
set_option maxHeartbeats 4000000 in
theorem take_lowH (atf C B off R g : Nat) (cs : Array Value) (ty : TypeId) (zs : List Int) (e : Int) (w : World) (he : Ent10 atf) (hat : AtI atf off)
  (hC : w.cell? ⟨C, 0, none⟩ = some (.func (.func atf) #[] #[])) (x0 : Int) (hx0 : cs[off]? = some (.int .i64 x0)) (hB : w.heap[B]? = some (.cells cs ty (0, 0))) (hby : Byt zs) (hR : Rd 186 w R g zs e) (hBR : B ≠ R) :
  Calls Tryz.prog 120 #[.pointer (some ⟨R, 0, none⟩), .pointer (some ⟨B, 0, none⟩), .pointer (some ⟨C, 0, none⟩)] w fun x w' => x = .returned (.tuple #[]) ∧ (B ≠ g → Rd 186 w' R g (rdZ 1 zs e) (rdE 1 zs e)) ∧
   w'.heap[B]? = some (.cells (cs.setIfInBounds off (.int .i64 (rdV 1 zs))) ty (0, 0)) ∧ Kp [R, B] w w' := by
 have HR := hide hR
 have HB := hide hB
 have HAT := hide hat
 have HY := hide hby
 have HX := hide hx0
 clear hR hat hB hby hx0
 go_enter Tryz.func120, Tryz.ntmps120
 go_wp2_with fail
 refine (uh HAT B w).mono ?_
 rintro x w1 ⟨rfl, rfl⟩
 go_wp2_with fail
 refine (rbyte_any R g zs e _ (uh HY) (uh HR)).mono ?_
 rintro x w2 ⟨rfl, hr2, hk2⟩
 have HR2 := hide hr2
 have HK2 := hide hk2
 have HB2 := hide (hk2.heap (uh HB) (by simpa using hBR))
 have hc2 : w2.cell? ⟨B, off, none⟩ = some (.int .i64 x0) := cell_blk (uh HB2) (uh HX)
 have hf2 : w2.frozen? ⟨B, off, none⟩ = false := free_of_two (uh HB2)
 clear hr2 hk2
 go_wp2
 go_end0
 have hk3 : Kp [B] w2 (w2.setCell ⟨B, off, none⟩ (.int .i64 (rdV 1 zs))) := (Kp.refl _ _).setCell _ _ (.inl (by simp))
 refine ⟨rfl, fun hBg => (uh HR2).keep hk3 (by simpa using hBR.symm) (by simpa using hBg.symm), heap_setCell_same _ _ _ _ _ _ (uh HB2), ?_⟩
 exact ((uh HK2).mono (by simp)).trans hk3 (by simp)
set_option maxRecDepth 100000 in
set_option maxHeartbeats 4000000 in
theorem take_numE (atf C B off R g : Nat) (cs : Array Value) (ty : TypeId) (zs : List Int) (e : Int) (w : World) (he : Ent10 atf) (hat : AtI atf off)
  (hC : w.cell? ⟨C, 0, none⟩ = some (.func (.func atf) #[] #[])) (x0 : Int) (hx0 : cs[off]? = some (.int .i64 x0)) (hB : w.heap[B]? = some (.cells cs ty (0, 0))) (hby : Byt zs) (hR : Rd 186 w R g zs e) (hBR : B ≠ R) :
  Calls Tryz.prog 125 #[.pointer (some ⟨R, 0, none⟩), .pointer (some ⟨B, 0, none⟩), .pointer (some ⟨C, 0, none⟩)] w fun x w' => x = .returned (.tuple #[]) ∧ (B ≠ g → Rd 186 w' R g (rdZ 8 zs e) (rdE 8 zs e)) ∧
   w'.heap[B]? = some (.cells (cs.setIfInBounds off (.int .i64 (rdV 8 zs))) ty (0, 0)) ∧ Kp [R, B] w w' := by
 have HR := hide hR
 have HB := hide hB
 have HAT := hide hat
 have HY := hide hby
 have HX := hide hx0
 clear hR hat hB hby hx0
 go_enter Tryz.func125, Tryz.ntmps125
 go_wp2_with fail
 refine (uh HAT B w).mono ?_
 rintro x w1 ⟨rfl, rfl⟩
 go_wp2_with fail
 refine (rint_any R g zs e _ (uh HY) (uh HR)).mono ?_
 rintro x w2 ⟨rfl, hr2, hk2⟩
 have HR2 := hide hr2
 have HK2 := hide hk2
 have HB2 := hide (hk2.heap (uh HB) (by simpa using hBR))
 have hc2 : w2.cell? ⟨B, off, none⟩ = some (.int .i64 x0) := cell_blk (uh HB2) (uh HX)
 have hf2 : w2.frozen? ⟨B, off, none⟩ = false := free_of_two (uh HB2)
 clear hr2 hk2
 go_wp2
 go_end0
 have hk3 : Kp [B] w2 (w2.setCell ⟨B, off, none⟩ (.int .i64 (rdV 8 zs))) := (Kp.refl _ _).setCell _ _ (.inl (by simp))
 refine ⟨rfl, fun hBg => (uh HR2).keep hk3 (by simpa using hBR.symm) (by simpa using hBg.symm), heap_setCell_same _ _ _ _ _ _ (uh HB2), ?_⟩
 exact ((uh HK2).mono (by simp)).trans hk3 (by simp)
set_option maxRecDepth 100000 in
set_option maxHeartbeats 4000000 in
theorem take_lowE (atf C B off R g : Nat) (cs : Array Value) (ty : TypeId) (zs : List Int) (e : Int) (w : World) (he : Ent10 atf) (hat : AtI atf off)
  (hC : w.cell? ⟨C, 0, none⟩ = some (.func (.func atf) #[] #[])) (x0 : Int) (hx0 : cs[off]? = some (.int .i64 x0)) (hB : w.heap[B]? = some (.cells cs ty (0, 0))) (hby : Byt zs) (hR : Rd 186 w R g zs e) (hBR : B ≠ R) :
  Calls Tryz.prog 123 #[.pointer (some ⟨R, 0, none⟩), .pointer (some ⟨B, 0, none⟩), .pointer (some ⟨C, 0, none⟩)] w fun x w' => x = .returned (.tuple #[]) ∧ (B ≠ g → Rd 186 w' R g (rdZ 1 zs e) (rdE 1 zs e)) ∧
   w'.heap[B]? = some (.cells (cs.setIfInBounds off (.int .i64 (rdV 1 zs))) ty (0, 0)) ∧ Kp [R, B] w w' := by
 have HR := hide hR
 have HB := hide hB
 have HAT := hide hat
 have HY := hide hby
 have HX := hide hx0
 clear hR hat hB hby hx0
 go_enter Tryz.func123, Tryz.ntmps123
 go_wp2_with fail
 refine (uh HAT B w).mono ?_
 rintro x w1 ⟨rfl, rfl⟩
 go_wp2_with fail
 refine (rbyte_any R g zs e _ (uh HY) (uh HR)).mono ?_
 rintro x w2 ⟨rfl, hr2, hk2⟩
 have HR2 := hide hr2
 have HK2 := hide hk2
 have HB2 := hide (hk2.heap (uh HB) (by simpa using hBR))
 have hc2 : w2.cell? ⟨B, off, none⟩ = some (.int .i64 x0) := cell_blk (uh HB2) (uh HX)
 have hf2 : w2.frozen? ⟨B, off, none⟩ = false := free_of_two (uh HB2)
 clear hr2 hk2
 go_wp2
 go_end0
 have hk3 : Kp [B] w2 (w2.setCell ⟨B, off, none⟩ (.int .i64 (rdV 1 zs))) := (Kp.refl _ _).setCell _ _ (.inl (by simp))
 refine ⟨rfl, fun hBg => (uh HR2).keep hk3 (by simpa using hBR.symm) (by simpa using hBg.symm), heap_setCell_same _ _ _ _ _ _ (uh HB2), ?_⟩
 exact ((uh HK2).mono (by simp)).trans hk3 (by simp)
set_option maxRecDepth 100000 in
set_option maxHeartbeats 8000000 in
theorem take_sevE (atf C B off m R g : Nat) (cs : Array Value) (ty : TypeId) (zs : List Int) (e : Int) (w : World) (he : Ent10 atf) (hat : AtS atf off m) (hm : m ≤ 100)
  (hC : w.cell? ⟨C, 0, none⟩ = some (.func (.func atf) #[] #[])) (hx0 : ∀ j, j < m → ∃ x0, cs[off + j]? = some (.int .u8 x0)) (hB : w.heap[B]? = some (.cells cs ty (0, 0))) (hby : Byt zs) (hR : Rd 186 w R g zs e) (hBR : B ≠ R) (hBg : B ≠ g) :
  Calls Tryz.prog 127 #[.pointer (some ⟨R, 0, none⟩), .pointer (some ⟨B, 0, none⟩), .pointer (some ⟨C, 0, none⟩)] w fun x w' => x = .returned (.tuple #[]) ∧
   Rd 186 w' R g (rdS (List.replicate m 1) (zs, e)).1 (rdS (List.replicate m 1) (zs, e)).2 ∧
   w'.heap[B]? = some (.cells (csets cs off ((rdL (List.replicate m 1) (zs, e)).map (Value.int .u8))) ty (0, 0)) ∧ Kp [R, B] w w' := by
 have HR := hide hR
 have HB := hide hB
 have HAT := hide hat
 have HY := hide hby
 have HX := hide hx0
 clear hR hat hB hby hx0
 go_enter Tryz.func127, Tryz.ntmps127
 go_wp2_with fail
 refine (uh HAT B w).mono ?_
 rintro x w1 ⟨rfl, rfl⟩
 go_wp2_with fail
 go_loopw [12] (fun i wr => ∃ (k : Nat), k ≤ m ∧ i = .int .i64 k ∧ Kp [R, B] w1 wr ∧ Rd 186 wr R g (rdS (List.replicate k 1) (zs, e)).1 (rdS (List.replicate k 1) (zs, e)).2 ∧
  wr.heap[B]? = some (.cells (csets cs off ((rdL (List.replicate k 1) (zs, e)).map (Value.int .u8))) ty (0, 0))) (fun i _ => m - (intOf i).toNat)
 case atStart => exact ⟨0, by omega, rfl, Kp.refl _ _, uh HR, uh HB⟩
 case round =>
  obtain ⟨k, hk, rfl, hK, hr, hb⟩ := hrel
  have HK := hide hK
  have HR1 := hide hr
  have HB1 := hide hb
  clear hK hr hb
  by_cases hlt : k < m
  ·have hy1 : Byt (rdS (List.replicate k 1) (zs, e)).1 := byt_rdS (uh HY)
   have h2 := rdV_one hy1
   obtain ⟨V, hV⟩ : ∃ V, rdV 1 (rdS (List.replicate k 1) (zs, e)).1 = V := ⟨_, rfl⟩
   have hl1 : ((rdL (List.replicate k 1) (zs, e)).map (Value.int .u8)).length = k := by rw [List.length_map, rdL_len, List.length_replicate]
   obtain ⟨x0, hx0⟩ : ∃ x0, (csets cs off ((rdL (List.replicate k 1) (zs, e)).map (Value.int .u8)))[off + k]? = some (.int .u8 x0) := by
    obtain ⟨x0, h⟩ := uh HX k hlt
    exact ⟨x0, by rw [csets_beyond _ _ _ _ (by omega)]; exact h⟩
   have HX0 := hide hx0
   have HV := hide hV
   have HY1 := hide hy1
   have hv1 := h2.2.1
   have hv2 := h2.2.2
   rw [hV] at hv1 hv2
   have HL1 := hide hl1
   clear hx0 h2 hy1 hl1 hV
   go_wp2_with fail
   refine (rbyte_any R g _ _ _ (uh HY1) (uh HR1)).mono ?_
   rintro x w2 ⟨rfl, hr2, hk2⟩
   have HR2 := hide hr2
   have HK2 := hide hk2
   have HB2 := hide (hk2.heap (uh HB1) (by simpa using hBR))
   have hc2 : w2.cell? ⟨B, off + k, none⟩ = some (.int .u8 x0) := cell_blk (uh HB2) (uh HX0)
   have hf2 : w2.frozen? ⟨B, off + k, none⟩ = false := free_of_two (uh HB2)
   rw [uh HV]
   clear hr2 hk2
   go_wp2
   go_roundw
   case rel =>
    have hk3 : Kp [B] w2 (w2.setCell ⟨B, off + k, none⟩ (.int .u8 V)) := (Kp.refl _ _).setCell _ _ (.inl (by simp))
    refine ⟨k + 1, by omega, by go_num, ?_, ?_, ?_⟩
    ·exact ((uh HK).trans ((uh HK2).mono (S' := [R, B]) (by simp)) (by simp)).trans hk3 (by simp)
    ·rw [List.replicate_succ', rdS_app]
     exact (uh HR2).keep hk3 (by simpa using hBR.symm) (by simpa using hBg.symm)
    rw [List.replicate_succ', rdL_app, List.map_append]
    have e1 : (rdL [1] (rdS (List.replicate k 1) (zs, e))).map (Value.int .u8) = [.int .u8 V] := by
     show [Value.int .u8 (rdV 1 (rdS (List.replicate k 1) (zs, e)).1)] = _
     rw [uh HV]
    rw [e1, csets_snoc, uh HL1]
    exact heap_setCell_same _ _ _ _ _ _ (uh HB2)
   case measure => simp [intOf]; omega
  have : k = m := by omega
  subst this
  go_wp2
  go_end0
  exact ⟨rfl, uh HR1, uh HB1, uh HK⟩
set_option maxRecDepth 100000 in
set_option maxHeartbeats 8000000 in
theorem take_sevT (atf C B off m R g : Nat) (cs : Array Value) (ty : TypeId) (zs : List Int) (e : Int) (w : World) (he : Ent10 atf) (hat : AtS atf off m) (hm : m ≤ 100)
  (hC : w.cell? ⟨C, 0, none⟩ = some (.func (.func atf) #[] #[])) (hx0 : ∀ j, j < m → ∃ x0, cs[off + j]? = some (.int .u8 x0)) (hB : w.heap[B]? = some (.cells cs ty (0, 0))) (hby : Byt zs) (hR : Rd 186 w R g zs e) (hBR : B ≠ R) (hBg : B ≠ g) :
  Calls Tryz.prog 129 #[.pointer (some ⟨R, 0, none⟩), .pointer (some ⟨B, 0, none⟩), .pointer (some ⟨C, 0, none⟩)] w fun x w' => x = .returned (.tuple #[]) ∧
   Rd 186 w' R g (rdS (List.replicate m 1) (zs, e)).1 (rdS (List.replicate m 1) (zs, e)).2 ∧
   w'.heap[B]? = some (.cells (csets cs off ((rdL (List.replicate m 1) (zs, e)).map (Value.int .u8))) ty (0, 0)) ∧ Kp [R, B] w w' := by
 have HR := hide hR
 have HB := hide hB
 have HAT := hide hat
 have HY := hide hby
 have HX := hide hx0
 clear hR hat hB hby hx0
 go_enter Tryz.func129, Tryz.ntmps129
 go_wp2_with fail
 refine (uh HAT B w).mono ?_
 rintro x w1 ⟨rfl, rfl⟩
 go_wp2_with fail
 go_loopw [12] (fun i wr => ∃ (k : Nat), k ≤ m ∧ i = .int .i64 k ∧ Kp [R, B] w1 wr ∧ Rd 186 wr R g (rdS (List.replicate k 1) (zs, e)).1 (rdS (List.replicate k 1) (zs, e)).2 ∧
  wr.heap[B]? = some (.cells (csets cs off ((rdL (List.replicate k 1) (zs, e)).map (Value.int .u8))) ty (0, 0))) (fun i _ => m - (intOf i).toNat)
 case atStart => exact ⟨0, by omega, rfl, Kp.refl _ _, uh HR, uh HB⟩
 case round =>
  obtain ⟨k, hk, rfl, hK, hr, hb⟩ := hrel
  have HK := hide hK
  have HR1 := hide hr
  have HB1 := hide hb
  clear hK hr hb
  by_cases hlt : k < m
  ·have hy1 : Byt (rdS (List.replicate k 1) (zs, e)).1 := byt_rdS (uh HY)
   have h2 := rdV_one hy1
   obtain ⟨V, hV⟩ : ∃ V, rdV 1 (rdS (List.replicate k 1) (zs, e)).1 = V := ⟨_, rfl⟩
   have hl1 : ((rdL (List.replicate k 1) (zs, e)).map (Value.int .u8)).length = k := by rw [List.length_map, rdL_len, List.length_replicate]
   obtain ⟨x0, hx0⟩ : ∃ x0, (csets cs off ((rdL (List.replicate k 1) (zs, e)).map (Value.int .u8)))[off + k]? = some (.int .u8 x0) := by
    obtain ⟨x0, h⟩ := uh HX k hlt
    exact ⟨x0, by rw [csets_beyond _ _ _ _ (by omega)]; exact h⟩
   have HX0 := hide hx0
   have HV := hide hV
   have HY1 := hide hy1
   have hv1 := h2.2.1
   have hv2 := h2.2.2
   rw [hV] at hv1 hv2
   have HL1 := hide hl1
   clear hx0 h2 hy1 hl1 hV
   go_wp2_with fail
   refine (rbyte_any R g _ _ _ (uh HY1) (uh HR1)).mono ?_
   rintro x w2 ⟨rfl, hr2, hk2⟩
   have HR2 := hide hr2
   have HK2 := hide hk2
   have HB2 := hide (hk2.heap (uh HB1) (by simpa using hBR))
   have hc2 : w2.cell? ⟨B, off + k, none⟩ = some (.int .u8 x0) := cell_blk (uh HB2) (uh HX0)
   have hf2 : w2.frozen? ⟨B, off + k, none⟩ = false := free_of_two (uh HB2)
   rw [uh HV]
   clear hr2 hk2
   go_wp2
   go_roundw
   case rel =>
    have hk3 : Kp [B] w2 (w2.setCell ⟨B, off + k, none⟩ (.int .u8 V)) := (Kp.refl _ _).setCell _ _ (.inl (by simp))
    refine ⟨k + 1, by omega, by go_num, ?_, ?_, ?_⟩
    ·exact ((uh HK).trans ((uh HK2).mono (S' := [R, B]) (by simp)) (by simp)).trans hk3 (by simp)
    ·rw [List.replicate_succ', rdS_app]
     exact (uh HR2).keep hk3 (by simpa using hBR.symm) (by simpa using hBg.symm)
    rw [List.replicate_succ', rdL_app, List.map_append]
    have e1 : (rdL [1] (rdS (List.replicate k 1) (zs, e))).map (Value.int .u8) = [.int .u8 V] := by
     show [Value.int .u8 (rdV 1 (rdS (List.replicate k 1) (zs, e)).1)] = _
     rw [uh HV]
    rw [e1, csets_snoc, uh HL1]
    exact heap_setCell_same _ _ _ _ _ _ (uh HB2)
   case measure => simp [intOf]; omega
  have : k = m := by omega
  subst this
  go_wp2
  go_end0
  exact ⟨rfl, uh HR1, uh HB1, uh HK⟩
end Go.Proofs.YtjdikhelabibnaaGreat

namespace Go.Proofs.YtjdikhelabibnaaGreat
open Go.RowKit Go.Shelf
attribute [local go_sem] Oper.semAt_some
theorem load_PH {W : World} {B o : Nat} {a b : Value} (k0 : W.cell? ⟨B, o, none⟩ = some a) (k1 : W.cell? ⟨B, o + 1, none⟩ = some b) : (loadVar 137 ⟨B, o, none⟩).run Tryz.prog W = .ok (.agg #[a, b]) W := by
 have hu := Tryz.underlying137
 simp [loadVar, isAgg, run_underlying hu, go_sem, k0, k1]
theorem load_PE {W : World} {B o : Nat} {a b : Value} (k0 : W.cell? ⟨B, o, none⟩ = some a) (k1 : W.cell? ⟨B, o + 1, none⟩ = some b) : (loadVar 145 ⟨B, o, none⟩).run Tryz.prog W = .ok (.agg #[a, b]) W := by
 have hu := Tryz.underlying145
 simp [loadVar, isAgg, run_underlying hu, go_sem, k0, k1]
theorem load_PT {W : World} {B o : Nat} {a b : Value} (k0 : W.cell? ⟨B, o, none⟩ = some a) (k1 : W.cell? ⟨B, o + 1, none⟩ = some b) : (loadVar 154 ⟨B, o, none⟩).run Tryz.prog W = .ok (.agg #[a, b]) W := by
 have hu := Tryz.underlying154
 simp [loadVar, isAgg, run_underlying hu, go_sem, k0, k1]
theorem at_h0 : Ent10 78 ∧ AtI 78 0 := by
 refine ⟨enters_of Tryz.func78 (by kernel_rfl) rfl, fun B W => ?_⟩
 go_enter Tryz.func78, Tryz.ntmps78
 go_wp2
 go_ret
 exact ⟨rfl, rfl⟩
theorem at_h1 : Ent10 80 ∧ AtI 80 1 := by
 refine ⟨enters_of Tryz.func80 (by kernel_rfl) rfl, fun B W => ?_⟩
 go_enter Tryz.func80, Tryz.ntmps80
 go_wp2
 go_ret
 exact ⟨rfl, rfl⟩
theorem at_h2 : Ent10 81 ∧ AtI 81 2 := by
 refine ⟨enters_of Tryz.func81 (by kernel_rfl) rfl, fun B W => ?_⟩
 go_enter Tryz.func81, Tryz.ntmps81
 go_wp2
 go_ret
 exact ⟨rfl, rfl⟩
theorem at_h3 : Ent10 82 ∧ AtI 82 3 := by
 refine ⟨enters_of Tryz.func82 (by kernel_rfl) rfl, fun B W => ?_⟩
 go_enter Tryz.func82, Tryz.ntmps82
 go_wp2
 go_ret
 exact ⟨rfl, rfl⟩
theorem at_e0 : Ent10 84 ∧ AtI 84 0 := by
 refine ⟨enters_of Tryz.func84 (by kernel_rfl) rfl, fun B W => ?_⟩
 go_enter Tryz.func84, Tryz.ntmps84
 go_wp2
 go_ret
 exact ⟨rfl, rfl⟩
theorem at_e1 : Ent10 86 ∧ AtI 86 1 := by
 refine ⟨enters_of Tryz.func86 (by kernel_rfl) rfl, fun B W => ?_⟩
 go_enter Tryz.func86, Tryz.ntmps86
 go_wp2
 go_ret
 exact ⟨rfl, rfl⟩
theorem at_e2 : Ent10 87 ∧ AtI 87 2 := by
 refine ⟨enters_of Tryz.func87 (by kernel_rfl) rfl, fun B W => ?_⟩
 go_enter Tryz.func87, Tryz.ntmps87
 go_wp2
 go_ret
 exact ⟨rfl, rfl⟩
theorem at_e3 : Ent10 89 ∧ AtS 89 3 16 := by
 refine ⟨enters_of Tryz.func89 (by kernel_rfl) rfl, fun B W => ?_⟩
 go_enter Tryz.func89, Tryz.ntmps89
 go_wp2
 go_ret
 exact ⟨rfl, rfl⟩
theorem at_t0 : Ent10 91 ∧ AtS 91 0 4 := by
 refine ⟨enters_of Tryz.func91 (by kernel_rfl) rfl, fun B W => ?_⟩
 go_enter Tryz.func91, Tryz.ntmps91
 go_wp2
 go_ret
 exact ⟨rfl, rfl⟩
set_option maxRecDepth 100000 in
set_option maxHeartbeats 4000000 in
theorem mk_numH (f : Nat) (w : World) : Calls Tryz.prog 77 #[.func (.func f) #[] #[]] w fun e w' =>
  e = .returned (.agg #[.func (.func 114) #[] #[.pointer (some ⟨w.heap.size, 0, none⟩)], .func (.func 116) #[] #[.pointer (some ⟨w.heap.size, 0, none⟩)]]) ∧
   w'.cell? ⟨w.heap.size, 0, none⟩ = some (.func (.func f) #[] #[]) ∧ w.heap.size < w'.heap.size ∧ Below w.heap.size w w' := by
 have hmf : ∀ (fn : Fn) (first cap : Array Value) (w : World), (Instr.makeFunc fn first cap).run Tryz.prog w = .ok (.func fn first cap) w := fun _ _ _ _ => rfl
 go_enter Tryz.func77, Tryz.ntmps77
 go_wp2
 obtain ⟨w1, hw1⟩ : ∃ w1, w.alloc (.cells #[.func (.func f) #[] #[]] 141) = w1 := ⟨_, rfl⟩
 rw [hw1]
 have hz : w1.heap.size = w.heap.size + 1 := by rw [← hw1]; simp
 rw [← hz]
 refine bodyPost_ret (results_cell7 rfl _ _ ⟨w1.heap.size, 0, none⟩ _ rfl (load_PH (cell_blk (World.alloc_heap_new w1 _) rfl) (cell_blk (World.alloc_heap_new w1 _) rfl))) rfl ?_
 exact ⟨rfl, by rw [World.cell?_of_block (Below.heap_alloc _ _ _ (by simp; omega)), ← hw1]; exact (cell_new' w _ _).1, by simp; omega, by rw [← hw1]; exact ((Below.refl _ w).alloc (Nat.le_refl _) _).alloc (by simp) _⟩
set_option maxRecDepth 100000 in
set_option maxHeartbeats 4000000 in
theorem mk_lowH (f : Nat) (w : World) : Calls Tryz.prog 79 #[.func (.func f) #[] #[]] w fun e w' =>
  e = .returned (.agg #[.func (.func 118) #[] #[.pointer (some ⟨w.heap.size, 0, none⟩)], .func (.func 120) #[] #[.pointer (some ⟨w.heap.size, 0, none⟩)]]) ∧
   w'.cell? ⟨w.heap.size, 0, none⟩ = some (.func (.func f) #[] #[]) ∧ w.heap.size < w'.heap.size ∧ Below w.heap.size w w' := by
 have hmf : ∀ (fn : Fn) (first cap : Array Value) (w : World), (Instr.makeFunc fn first cap).run Tryz.prog w = .ok (.func fn first cap) w := fun _ _ _ _ => rfl
 go_enter Tryz.func79, Tryz.ntmps79
 go_wp2
 obtain ⟨w1, hw1⟩ : ∃ w1, w.alloc (.cells #[.func (.func f) #[] #[]] 141) = w1 := ⟨_, rfl⟩
 rw [hw1]
 have hz : w1.heap.size = w.heap.size + 1 := by rw [← hw1]; simp
 rw [← hz]
 refine bodyPost_ret (results_cell7 rfl _ _ ⟨w1.heap.size, 0, none⟩ _ rfl (load_PH (cell_blk (World.alloc_heap_new w1 _) rfl) (cell_blk (World.alloc_heap_new w1 _) rfl))) rfl ?_
 exact ⟨rfl, by rw [World.cell?_of_block (Below.heap_alloc _ _ _ (by simp; omega)), ← hw1]; exact (cell_new' w _ _).1, by simp; omega, by rw [← hw1]; exact ((Below.refl _ w).alloc (Nat.le_refl _) _).alloc (by simp) _⟩
set_option maxRecDepth 100000 in
set_option maxHeartbeats 4000000 in
theorem mk_numE (f : Nat) (w : World) : Calls Tryz.prog 85 #[.func (.func f) #[] #[]] w fun e w' =>
  e = .returned (.agg #[.func (.func 124) #[] #[.pointer (some ⟨w.heap.size, 0, none⟩)], .func (.func 125) #[] #[.pointer (some ⟨w.heap.size, 0, none⟩)]]) ∧
   w'.cell? ⟨w.heap.size, 0, none⟩ = some (.func (.func f) #[] #[]) ∧ w.heap.size < w'.heap.size ∧ Below w.heap.size w w' := by
 have hmf : ∀ (fn : Fn) (first cap : Array Value) (w : World), (Instr.makeFunc fn first cap).run Tryz.prog w = .ok (.func fn first cap) w := fun _ _ _ _ => rfl
 go_enter Tryz.func85, Tryz.ntmps85
 go_wp2
 obtain ⟨w1, hw1⟩ : ∃ w1, w.alloc (.cells #[.func (.func f) #[] #[]] 148) = w1 := ⟨_, rfl⟩
 rw [hw1]
 have hz : w1.heap.size = w.heap.size + 1 := by rw [← hw1]; simp
 rw [← hz]
 refine bodyPost_ret (results_cell7 rfl _ _ ⟨w1.heap.size, 0, none⟩ _ rfl (load_PE (cell_blk (World.alloc_heap_new w1 _) rfl) (cell_blk (World.alloc_heap_new w1 _) rfl))) rfl ?_
 exact ⟨rfl, by rw [World.cell?_of_block (Below.heap_alloc _ _ _ (by simp; omega)), ← hw1]; exact (cell_new' w _ _).1, by simp; omega, by rw [← hw1]; exact ((Below.refl _ w).alloc (Nat.le_refl _) _).alloc (by simp) _⟩
set_option maxRecDepth 100000 in
set_option maxHeartbeats 4000000 in
theorem mk_lowE (f : Nat) (w : World) : Calls Tryz.prog 83 #[.func (.func f) #[] #[]] w fun e w' =>
  e = .returned (.agg #[.func (.func 122) #[] #[.pointer (some ⟨w.heap.size, 0, none⟩)], .func (.func 123) #[] #[.pointer (some ⟨w.heap.size, 0, none⟩)]]) ∧
   w'.cell? ⟨w.heap.size, 0, none⟩ = some (.func (.func f) #[] #[]) ∧ w.heap.size < w'.heap.size ∧ Below w.heap.size w w' := by
 have hmf : ∀ (fn : Fn) (first cap : Array Value) (w : World), (Instr.makeFunc fn first cap).run Tryz.prog w = .ok (.func fn first cap) w := fun _ _ _ _ => rfl
 go_enter Tryz.func83, Tryz.ntmps83
 go_wp2
 obtain ⟨w1, hw1⟩ : ∃ w1, w.alloc (.cells #[.func (.func f) #[] #[]] 148) = w1 := ⟨_, rfl⟩
 rw [hw1]
 have hz : w1.heap.size = w.heap.size + 1 := by rw [← hw1]; simp
 rw [← hz]
 refine bodyPost_ret (results_cell7 rfl _ _ ⟨w1.heap.size, 0, none⟩ _ rfl (load_PE (cell_blk (World.alloc_heap_new w1 _) rfl) (cell_blk (World.alloc_heap_new w1 _) rfl))) rfl ?_
 exact ⟨rfl, by rw [World.cell?_of_block (Below.heap_alloc _ _ _ (by simp; omega)), ← hw1]; exact (cell_new' w _ _).1, by simp; omega, by rw [← hw1]; exact ((Below.refl _ w).alloc (Nat.le_refl _) _).alloc (by simp) _⟩
set_option maxRecDepth 100000 in
set_option maxHeartbeats 4000000 in
theorem mk_sevE (f : Nat) (w : World) : Calls Tryz.prog 88 #[.func (.func f) #[] #[]] w fun e w' =>
  e = .returned (.agg #[.func (.func 126) #[] #[.pointer (some ⟨w.heap.size, 0, none⟩)], .func (.func 127) #[] #[.pointer (some ⟨w.heap.size, 0, none⟩)]]) ∧
   w'.cell? ⟨w.heap.size, 0, none⟩ = some (.func (.func f) #[] #[]) ∧ w.heap.size < w'.heap.size ∧ Below w.heap.size w w' := by
 have hmf : ∀ (fn : Fn) (first cap : Array Value) (w : World), (Instr.makeFunc fn first cap).run Tryz.prog w = .ok (.func fn first cap) w := fun _ _ _ _ => rfl
 go_enter Tryz.func88, Tryz.ntmps88
 go_wp2
 obtain ⟨w1, hw1⟩ : ∃ w1, w.alloc (.cells #[.func (.func f) #[] #[]] 150) = w1 := ⟨_, rfl⟩
 rw [hw1]
 have hz : w1.heap.size = w.heap.size + 1 := by rw [← hw1]; simp
 rw [← hz]
 refine bodyPost_ret (results_cell7 rfl _ _ ⟨w1.heap.size, 0, none⟩ _ rfl (load_PE (cell_blk (World.alloc_heap_new w1 _) rfl) (cell_blk (World.alloc_heap_new w1 _) rfl))) rfl ?_
 exact ⟨rfl, by rw [World.cell?_of_block (Below.heap_alloc _ _ _ (by simp; omega)), ← hw1]; exact (cell_new' w _ _).1, by simp; omega, by rw [← hw1]; exact ((Below.refl _ w).alloc (Nat.le_refl _) _).alloc (by simp) _⟩
set_option maxRecDepth 100000 in
set_option maxHeartbeats 4000000 in
theorem mk_sevT (f : Nat) (w : World) : Calls Tryz.prog 90 #[.func (.func f) #[] #[]] w fun e w' =>
  e = .returned (.agg #[.func (.func 128) #[] #[.pointer (some ⟨w.heap.size, 0, none⟩)], .func (.func 129) #[] #[.pointer (some ⟨w.heap.size, 0, none⟩)]]) ∧
   w'.cell? ⟨w.heap.size, 0, none⟩ = some (.func (.func f) #[] #[]) ∧ w.heap.size < w'.heap.size ∧ Below w.heap.size w w' := by
 have hmf : ∀ (fn : Fn) (first cap : Array Value) (w : World), (Instr.makeFunc fn first cap).run Tryz.prog w = .ok (.func fn first cap) w := fun _ _ _ _ => rfl
 go_enter Tryz.func90, Tryz.ntmps90
 go_wp2
 obtain ⟨w1, hw1⟩ : ∃ w1, w.alloc (.cells #[.func (.func f) #[] #[]] 157) = w1 := ⟨_, rfl⟩
 rw [hw1]
 have hz : w1.heap.size = w.heap.size + 1 := by rw [← hw1]; simp
 rw [← hz]
 refine bodyPost_ret (results_cell7 rfl _ _ ⟨w1.heap.size, 0, none⟩ _ rfl (load_PT (cell_blk (World.alloc_heap_new w1 _) rfl) (cell_blk (World.alloc_heap_new w1 _) rfl))) rfl ?_
 exact ⟨rfl, by rw [World.cell?_of_block (Below.heap_alloc _ _ _ (by simp; omega)), ← hw1]; exact (cell_new' w _ _).1, by simp; omega, by rw [← hw1]; exact ((Below.refl _ w).alloc (Nat.le_refl _) _).alloc (by simp) _⟩
structure LayH (w : World) (L : Nat) (c : Nat → Nat) : Prop where
 blk : w.heap[L]? = some (.cells #[.func (.func 114) #[] #[.pointer (some ⟨c 0, 0, none⟩)], .func (.func 116) #[] #[.pointer (some ⟨c 0, 0, none⟩)], .func (.func 118) #[] #[.pointer (some ⟨c 1, 0, none⟩)], .func (.func 120) #[] #[.pointer (some ⟨c 1, 0, none⟩)], .func (.func 118) #[] #[.pointer (some ⟨c 2, 0, none⟩)], .func (.func 120) #[] #[.pointer (some ⟨c 2, 0, none⟩)], .func (.func 118) #[] #[.pointer (some ⟨c 3, 0, none⟩)], .func (.func 120) #[] #[.pointer (some ⟨c 3, 0, none⟩)]] 137 (0, 0))
 c0 : w.cell? ⟨c 0, 0, none⟩ = some (.func (.func 78) #[] #[])
 c1 : w.cell? ⟨c 1, 0, none⟩ = some (.func (.func 80) #[] #[])
 c2 : w.cell? ⟨c 2, 0, none⟩ = some (.func (.func 81) #[] #[])
 c3 : w.cell? ⟨c 3, 0, none⟩ = some (.func (.func 82) #[] #[])
theorem LayH.keep {w w' : World} {L : Nat} {c : Nat → Nat} (h : LayH w L c) (k : Below w.heap.size w w') : LayH w' L c := by
 have hc : ∀ (p : Addr) v, w.cell? p = some v → w'.cell? p = some v := fun p v h => (World.cell?_of_block (k.block _ (block_lt_of_cell h))).trans h
 exact ⟨(k.block _ (lt_of_block h.blk)).trans h.blk, hc _ _ h.c0, hc _ _ h.c1, hc _ _ h.c2, hc _ _ h.c3⟩
set_option maxRecDepth 100000 in
set_option maxHeartbeats 4000000 in
theorem layH_any (w : World) : Calls Tryz.prog 48 #[] w fun e w' => ∃ L c, e = .returned (.slice (some ⟨L, 0, none⟩) 4 4) ∧ LayH w' L c ∧ w.heap.size ≤ L ∧ (∀ i, i < 4 → w.heap.size ≤ c i) ∧ Below w.heap.size w w' := by
 go_enter Tryz.func48, Tryz.ntmps48
 go_wp2_with fail
 refine (mk_numH 78 _).mono ?_
 rintro x w1 ⟨rfl, hc0, hz0, hk0⟩
 have HC0 := hide hc0
 have HK0 := hide hk0
 clear hc0 hk0
 go_wp2_with fail
 refine (mk_lowH 80 _).mono ?_
 rintro x w2 ⟨rfl, hc1, hz1, hk1⟩
 have HC1 := hide hc1
 have HK1 := hide hk1
 clear hc1 hk1
 go_wp2_with fail
 refine (mk_lowH 81 _).mono ?_
 rintro x w3 ⟨rfl, hc2, hz2, hk2⟩
 have HC2 := hide hc2
 have HK2 := hide hk2
 clear hc2 hk2
 go_wp2_with fail
 refine (mk_lowH 82 _).mono ?_
 rintro x w4 ⟨rfl, hc3, hz3, hk3⟩
 have HC3 := hide hc3
 have HK3 := hide hk3
 clear hc3 hk3
 go_wp2
 go_ret
 have hcell : ∀ (A B : World), Below A.heap.size A B → ∀ (p : Addr) v, A.cell? p = some v → B.cell? p = some v := fun A B k p v h => (World.cell?_of_block (k.block _ (block_lt_of_cell h))).trans h
 have kl : Below w4.heap.size w4 (w4.alloc (.cells #[.func (.func 114) #[] #[.pointer (some ⟨w.heap.size, 0, none⟩)], .func (.func 116) #[] #[.pointer (some ⟨w.heap.size, 0, none⟩)], .func (.func 118) #[] #[.pointer (some ⟨w1.heap.size, 0, none⟩)], .func (.func 120) #[] #[.pointer (some ⟨w1.heap.size, 0, none⟩)], .func (.func 118) #[] #[.pointer (some ⟨w2.heap.size, 0, none⟩)], .func (.func 120) #[] #[.pointer (some ⟨w2.heap.size, 0, none⟩)], .func (.func 118) #[] #[.pointer (some ⟨w3.heap.size, 0, none⟩)], .func (.func 120) #[] #[.pointer (some ⟨w3.heap.size, 0, none⟩)]] 137)) := (Below.refl _ _).alloc (Nat.le_refl _) _
 have k3 := kl
 have k2 := (uh HK3).trans (k3.mono (by omega))
 have k1 := (uh HK2).trans (k2.mono (by omega))
 have k0 := (uh HK1).trans (k1.mono (by omega))
 exact ⟨w4.heap.size, fun i => match i with | 0 => w.heap.size | 1 => w1.heap.size | 2 => w2.heap.size | _ => w3.heap.size, rfl, ⟨World.alloc_heap_new w4 _, hcell _ _ k0 _ _ (uh HC0), hcell _ _ k1 _ _ (uh HC1), hcell _ _ k2 _ _ (uh HC2), hcell _ _ k3 _ _ (uh HC3)⟩, by omega, fun i hi => match i, hi with | 0, _ => (by show w.heap.size ≤ w.heap.size; omega) | 1, _ => (by show w.heap.size ≤ w1.heap.size; omega) | 2, _ => (by show w.heap.size ≤ w2.heap.size; omega) | 3, _ => (by show w.heap.size ≤ w3.heap.size; omega), (uh HK0).trans (k0.mono (by omega))⟩
structure LayE (w : World) (L : Nat) (c : Nat → Nat) : Prop where
 blk : w.heap[L]? = some (.cells #[.func (.func 122) #[] #[.pointer (some ⟨c 0, 0, none⟩)], .func (.func 123) #[] #[.pointer (some ⟨c 0, 0, none⟩)], .func (.func 124) #[] #[.pointer (some ⟨c 1, 0, none⟩)], .func (.func 125) #[] #[.pointer (some ⟨c 1, 0, none⟩)], .func (.func 124) #[] #[.pointer (some ⟨c 2, 0, none⟩)], .func (.func 125) #[] #[.pointer (some ⟨c 2, 0, none⟩)], .func (.func 126) #[] #[.pointer (some ⟨c 3, 0, none⟩)], .func (.func 127) #[] #[.pointer (some ⟨c 3, 0, none⟩)]] 145 (0, 0))
 c0 : w.cell? ⟨c 0, 0, none⟩ = some (.func (.func 84) #[] #[])
 c1 : w.cell? ⟨c 1, 0, none⟩ = some (.func (.func 86) #[] #[])
 c2 : w.cell? ⟨c 2, 0, none⟩ = some (.func (.func 87) #[] #[])
 c3 : w.cell? ⟨c 3, 0, none⟩ = some (.func (.func 89) #[] #[])
theorem LayE.keep {w w' : World} {L : Nat} {c : Nat → Nat} (h : LayE w L c) (k : Below w.heap.size w w') : LayE w' L c := by
 have hc : ∀ (p : Addr) v, w.cell? p = some v → w'.cell? p = some v := fun p v h => (World.cell?_of_block (k.block _ (block_lt_of_cell h))).trans h
 exact ⟨(k.block _ (lt_of_block h.blk)).trans h.blk, hc _ _ h.c0, hc _ _ h.c1, hc _ _ h.c2, hc _ _ h.c3⟩
set_option maxRecDepth 100000 in
set_option maxHeartbeats 4000000 in
theorem layE_any (w : World) : Calls Tryz.prog 50 #[] w fun e w' => ∃ L c, e = .returned (.slice (some ⟨L, 0, none⟩) 4 4) ∧ LayE w' L c ∧ w.heap.size ≤ L ∧ (∀ i, i < 4 → w.heap.size ≤ c i) ∧ Below w.heap.size w w' := by
 go_enter Tryz.func50, Tryz.ntmps50
 go_wp2_with fail
 refine (mk_lowE 84 _).mono ?_
 rintro x w1 ⟨rfl, hc0, hz0, hk0⟩
 have HC0 := hide hc0
 have HK0 := hide hk0
 clear hc0 hk0
 go_wp2_with fail
 refine (mk_numE 86 _).mono ?_
 rintro x w2 ⟨rfl, hc1, hz1, hk1⟩
 have HC1 := hide hc1
 have HK1 := hide hk1
 clear hc1 hk1
 go_wp2_with fail
 refine (mk_numE 87 _).mono ?_
 rintro x w3 ⟨rfl, hc2, hz2, hk2⟩
 have HC2 := hide hc2
 have HK2 := hide hk2
 clear hc2 hk2
 go_wp2_with fail
 refine (mk_sevE 89 _).mono ?_
 rintro x w4 ⟨rfl, hc3, hz3, hk3⟩
 have HC3 := hide hc3
 have HK3 := hide hk3
 clear hc3 hk3
 go_wp2
 go_ret
 have hcell : ∀ (A B : World), Below A.heap.size A B → ∀ (p : Addr) v, A.cell? p = some v → B.cell? p = some v := fun A B k p v h => (World.cell?_of_block (k.block _ (block_lt_of_cell h))).trans h
 have kl : Below w4.heap.size w4 (w4.alloc (.cells #[.func (.func 122) #[] #[.pointer (some ⟨w.heap.size, 0, none⟩)], .func (.func 123) #[] #[.pointer (some ⟨w.heap.size, 0, none⟩)], .func (.func 124) #[] #[.pointer (some ⟨w1.heap.size, 0, none⟩)], .func (.func 125) #[] #[.pointer (some ⟨w1.heap.size, 0, none⟩)], .func (.func 124) #[] #[.pointer (some ⟨w2.heap.size, 0, none⟩)], .func (.func 125) #[] #[.pointer (some ⟨w2.heap.size, 0, none⟩)], .func (.func 126) #[] #[.pointer (some ⟨w3.heap.size, 0, none⟩)], .func (.func 127) #[] #[.pointer (some ⟨w3.heap.size, 0, none⟩)]] 145)) := (Below.refl _ _).alloc (Nat.le_refl _) _
 have k3 := kl
 have k2 := (uh HK3).trans (k3.mono (by omega))
 have k1 := (uh HK2).trans (k2.mono (by omega))
 have k0 := (uh HK1).trans (k1.mono (by omega))
 exact ⟨w4.heap.size, fun i => match i with | 0 => w.heap.size | 1 => w1.heap.size | 2 => w2.heap.size | _ => w3.heap.size, rfl, ⟨World.alloc_heap_new w4 _, hcell _ _ k0 _ _ (uh HC0), hcell _ _ k1 _ _ (uh HC1), hcell _ _ k2 _ _ (uh HC2), hcell _ _ k3 _ _ (uh HC3)⟩, by omega, fun i hi => match i, hi with | 0, _ => (by show w.heap.size ≤ w.heap.size; omega) | 1, _ => (by show w.heap.size ≤ w1.heap.size; omega) | 2, _ => (by show w.heap.size ≤ w2.heap.size; omega) | 3, _ => (by show w.heap.size ≤ w3.heap.size; omega), (uh HK0).trans (k0.mono (by omega))⟩
structure LayT (w : World) (L : Nat) (c : Nat → Nat) : Prop where
 blk : w.heap[L]? = some (.cells #[.func (.func 128) #[] #[.pointer (some ⟨c 0, 0, none⟩)], .func (.func 129) #[] #[.pointer (some ⟨c 0, 0, none⟩)]] 154 (0, 0))
 c0 : w.cell? ⟨c 0, 0, none⟩ = some (.func (.func 91) #[] #[])
theorem LayT.keep {w w' : World} {L : Nat} {c : Nat → Nat} (h : LayT w L c) (k : Below w.heap.size w w') : LayT w' L c := by
 have hc : ∀ (p : Addr) v, w.cell? p = some v → w'.cell? p = some v := fun p v h => (World.cell?_of_block (k.block _ (block_lt_of_cell h))).trans h
 exact ⟨(k.block _ (lt_of_block h.blk)).trans h.blk, hc _ _ h.c0⟩
set_option maxRecDepth 100000 in
set_option maxHeartbeats 4000000 in
theorem layT_any (w : World) : Calls Tryz.prog 52 #[] w fun e w' => ∃ L c, e = .returned (.slice (some ⟨L, 0, none⟩) 1 1) ∧ LayT w' L c ∧ w.heap.size ≤ L ∧ (∀ i, i < 1 → w.heap.size ≤ c i) ∧ Below w.heap.size w w' := by
 go_enter Tryz.func52, Tryz.ntmps52
 go_wp2_with fail
 refine (mk_sevT 91 _).mono ?_
 rintro x w1 ⟨rfl, hc0, hz0, hk0⟩
 have HC0 := hide hc0
 have HK0 := hide hk0
 clear hc0 hk0
 go_wp2
 go_ret
 have hcell : ∀ (A B : World), Below A.heap.size A B → ∀ (p : Addr) v, A.cell? p = some v → B.cell? p = some v := fun A B k p v h => (World.cell?_of_block (k.block _ (block_lt_of_cell h))).trans h
 have kl : Below w1.heap.size w1 (w1.alloc (.cells #[.func (.func 128) #[] #[.pointer (some ⟨w.heap.size, 0, none⟩)], .func (.func 129) #[] #[.pointer (some ⟨w.heap.size, 0, none⟩)]] 154)) := (Below.refl _ _).alloc (Nat.le_refl _) _
 have k0 := kl
 exact ⟨w1.heap.size, fun i => match i with | _ => w.heap.size, rfl, ⟨World.alloc_heap_new w1 _, hcell _ _ k0 _ _ (uh HC0)⟩, by omega, fun i hi => match i, hi with | 0, _ => (by show w.heap.size ≤ w.heap.size; omega), (uh HK0).trans (k0.mono (by omega))⟩
end Go.Proofs.YtjdikhelabibnaaGreat

namespace Go.Proofs.YtjdikhelabibnaaGreat
open Go.RowKit Go.Shelf
attribute [local go_sem] Oper.semAt_some
def owH (a b c d : Int) : List (List Int) := [by8 8 (IntKind.u64.wrap a), by8 1 (IntKind.u64.wrap b), by8 1 (IntKind.u64.wrap c), by8 1 (IntKind.u64.wrap d)]
def owE (k l s : Int) (d : List Nat) : List (List Int) := [by8 1 (IntKind.u64.wrap k), by8 8 (IntKind.u64.wrap l), by8 8 (IntKind.u64.wrap s), ints d]
def owT (d : List Nat) : List (List Int) := [ints d]
def fin10 (l : List (List Int)) (k : Nat) : List Int := (l.take k).flatten
theorem fin_succ {l : List (List Int)} {k : Nat} (x : List Int) (h : l[k]? = some x) : fin10 l (k + 1) = fin10 l k ++ x := by
 unfold fin10
 rw [List.take_add_one, h]
 simp
def tailA (d : List Nat) : Array Value := (datL d).toArray
end Go.Proofs.YtjdikhelabibnaaGreat
