/-
  bits.ones, its iterator.
-/
import Derived.Test.YtjdikhelabibnabGreatN6a
import Derived.Test.YtjdikhelabibnabGreatRy
namespace Go.Proofs.YtjdikhelabibnabGreat
open Go.RowKit Go.Shelf
attribute [local go_sem] Oper.semAt_some

/-- The iterator's word: each place with its byte. -/
structure Seq6 (gf : Nat) (lb : Array Value) (N : Nat) (f : Nat → Nat) (T : Nat → Prop) (D : Nat) (w : World) : Prop where
  enters : ∀ args W, (callFunc gf args).run Tryz.prog W = .ok (.enter gf args) W
  seq : SeqY Tryz.prog gf lb (fun i : Fin N => #[Value.int .i64 (i.val : Nat), Value.int .u8 (f i.val : Nat)]) T D (fun xs => xs.map Fin.val = List.range N) N w

theorem SeqY.below {α : Type} {P : Program} {g : Nat} {lb : Array Value} {encs : α → Array Value} {T : Nat → Prop} {D : Nat} {S : List α → Prop} {N : Nat} {w w' : World} (h : SeqY P g lb encs T D S N w) (k : Below w.heap.size w w') : SeqY P g lb encs T D S N w' :=
  fun l J W hW hJ hY h0 n => h l J W (k.trans (hW.mono k.size)) hJ hY h0 n
theorem SeqY.more {α : Type} {P : Program} {g : Nat} {lb : Array Value} {encs : α → Array Value} {T U : Nat → Prop} {D : Nat} {S : List α → Prop} {N : Nat} {w : World} (h : SeqY P g lb encs T D S N w) (k : ∀ i, T i → U i) : SeqY P g lb encs U D S N w :=
  fun l J W hW hJ hY h0 n => h l J W hW hJ (fun pre x W1 hj hl hz => by
    obtain ⟨fn, tmps, assign, body, h1, h2⟩ := hY pre x W1 hj hl hz
    exact ⟨fn, tmps, assign, body, h1, h2.mono (fun e W' he => ⟨he.1, he.2.1, he.2.2.mono (fun i hi => hi.imp id (k i))⟩)⟩) h0 n

end Go.Proofs.YtjdikhelabibnabGreat
