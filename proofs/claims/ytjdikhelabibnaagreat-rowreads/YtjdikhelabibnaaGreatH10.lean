/-
  The laws' own within and Good (ramekinlaw10); a slot that is stored whole.
-/
import Derived.Test.YtjdikhelabibnaaGreatR10c
namespace Go.Proofs.YtjdikhelabibnaaGreat
open Go.RowKit Go.Shelf

theorem within10_any (a n : Int) (w : World) (hn : 0 < n) (hn2 : n < 100000) :
    Calls Tryz.prog 56 #[.int .i64 a, .int .i64 n] w fun e w' => e = .returned (.int .i64 (a % n)) ∧ w' = w := by
  obtain ⟨h1, h2, h3, h4⟩ := tmod_emod a n hn
  have H1 := hide h1
  have H2 := hide h2
  clear h1 h2
  go_enter Tryz.func56, Tryz.ntmps56
  go_wp2
  · have h5 : a.tmod n < 0 := by assumption
    go_ret
    exact ⟨by rw [← unhide H1 h5]; rfl, rfl⟩
  · have h5 : 0 ≤ a.tmod n := by assumption
    go_ret
    exact ⟨by rw [← unhide H2 h5]; rfl, rfl⟩

theorem run_build9 {P : Program} {o : Oper} {a : Act} {W : World} {ty : TypeId} {ps : Array (Nat × Operand)} {v : Value} {parts : Array (Nat × Value)} (ho : o.op = .build ty ps) (hp : (ps.map fun p => (p.1, a.eval p.2)) = parts) (hb : (Instr.build ty parts).run P W = .ok v W) : (execOp a.eval o).run P W = .ok (.value v) W := by
  unfold execOp
  simp only [ho, hp, Sem.run_bind, hb, Result.andThen_ok, Sem.run_pure]
theorem below10_setCells {n : Nat} {a : World} (b : Nat) : ∀ (vs : List Value) (o : Nat) (w : World), Below n a w → n ≤ b → Below n a (w.setCells b o vs)
  | [], _, _, h, _ => h
  | v :: r, o, w, h, hb => by
    rw [World.setCells]
    exact below10_setCells b r (o + 1) _ (h.setCell (p := ⟨b, o, none⟩) hb v) hb
theorem build_TE (k l s : Int) (d : List Nat) (h : d.length = 16) (w : World) : (Instr.build 44 #[(0, .int .i64 k), (1, .int .i64 l), (2, .int .i64 s), (3, .agg (datL d).toArray)]).run Tryz.prog w = .ok (.agg (entA k l s d)) w := by
  obtain ⟨a0, a1, a2, a3, a4, a5, a6, a7, a8, a9, a10, a11, a12, a13, a14, a15, rfl⟩ := len16 h
  exact run_build w 44 _ _ (by kernel_rfl)
theorem build_TE3 (k l s : Int) (w : World) : (Instr.build 44 #[(0, .int .i64 k), (1, .int .i64 l), (2, .int .i64 s)]).run Tryz.prog w = .ok (.agg (entA k l s zer16)) w := run_build w 44 _ _ (by kernel_rfl)
theorem build_TE1 (k : Int) (w : World) : (Instr.build 44 #[(0, .int .i64 k)]).run Tryz.prog w = .ok (.agg (entA k 0 0 zer16)) w := run_build w 44 _ _ (by kernel_rfl)
theorem entA_one (k l s : Int) (d : List Nat) : (entA k l s d).all (·.oneCell') = true := by
  refine all_oneCell_toArray (fun v hv => ?_)
  simp only [List.mem_cons] at hv
  rcases hv with rfl | rfl | rfl | hv
  · rfl
  · rfl
  · rfl
  · obtain ⟨x, _, rfl⟩ := List.mem_map.1 hv
    rfl
theorem EntAt.there {w : World} {b : Nat} {k l s : Int} {d : List Nat} (h : EntAt w b k l s d) (hd : d.length = 16) {n : Nat} (hn : n = 19) : w.there b 0 n := by
  subst hn
  intro j hj
  rw [Nat.zero_add]
  refine ⟨?_, free_blk h.blk⟩
  have hs := entA_size (k := k) (l := l) (s := s) hd
  rw [cell_blk h.blk (Array.getElem?_eq_getElem (by omega))]
  rfl
/-- What was stored is loaded. -/
theorem stored_TE {w : World} {b : Nat} {k l s k' l' s' : Int} {d d' : List Nat} (h : EntAt w b k l s d) (hd : d.length = 16) (hd' : d'.length = 16) : (loadVar 44 ⟨b, 0, none⟩).run Tryz.prog (w.setCells b 0 (entA k' l' s' d').toList) = .ok (.agg (entA k' l' s' d')) (w.setCells b 0 (entA k' l' s' d').toList) :=
  run_loadVar_mid _ b 0 44 (entA k' l' s' d').toList _ (World.rangeAt_setCells_same w b 0 _ (h.there hd (by rw [Array.length_toList, entA_size hd']))) Tryz.underlying44 rfl (by rw [sizeTE, Array.length_toList, entA_size hd'])

/-- What Good makes: kind, sector, number, bytes. -/
def gdK (k : Int) : Int := k % 4
def gdLb (k l : Int) : Int := if k % 4 = 1 ∨ k % 4 = 2 then l % 100 else 0
def gdS (k s : Int) : Int := if k % 4 = 1 ∨ k % 4 = 2 then 1 + s % 1000 else 0
def gdD (k : Int) (d : List Nat) : List Nat := if k % 4 = 1 then d else zer16
theorem gdD_len {k : Int} {d : List Nat} (h : d.length = 16) : (gdD k d).length = 16 := by unfold gdD; split; exact h; exact zer16_len
end Go.Proofs.YtjdikhelabibnaaGreat
