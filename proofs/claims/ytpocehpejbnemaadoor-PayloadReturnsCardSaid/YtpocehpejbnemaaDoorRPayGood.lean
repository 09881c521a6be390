/-
  Package payload's Parse, given what the reader of the type returns.
-/
import Derived.Test.YtpocehpejbnemaaDoorRZ14
namespace Go.Proofs.YtpocehpejbnemaaDoor
open Go.RowKit
set_option linter.unusedVariables false

/-- What is known of a payload that was read: it lies beyond a place, and the type does not matter. -/
structure Gd where
  ok : Nat → World → Pv → Prop
  keep : ∀ {base : Nat} {w w' : World} {x : Pv}, ok base w x → (∀ a v, base ≤ a.block → w.cell? a = some v → w'.cell? a = some v) → ok base w' x
  mono : ∀ {base base' : Nat} {w : World} {x : Pv}, ok base w x → base' ≤ base → ok base' w x
  ty : ∀ {base : Nat} {w : World} {x : Pv} (z : Int), ok base w x → ok base w { x with t := z }
theorem Frs.keep {w w' : World} {base : Nat} {p : Option Addr} {n c : Nat} {xs : List Int} (h : Frs w base p n c xs) (hk : ∀ a v, base ≤ a.block → w.cell? a = some v → w'.cell? a = some v) : Frs w' base p n c xs :=
  ⟨⟨h.byt.len, h.byt.cap, h.byt.big, h.byt.rng, fun hn => by
    obtain ⟨b, o, e, hc⟩ := h.byt.mem hn
    obtain ⟨b', o', e', hb⟩ := h.own (by have := h.byt.len; omega)
    rw [e] at e'
    injection e' with e'
    injection e' with e1 e2
    subst e1
    exact ⟨b, o, e, fun i hi => hk _ _ hb (hc i hi)⟩⟩, h.own⟩
def gdData (xs : List Int) : Gd where
  ok base w x := FrV w base x.da xs
  keep h hk := Frs.keep h hk
  mono h hb := Frs.mono h hb
  ty _ h := h
def gdIdent (xs : List Int) : Gd where
  ok base w x := x.ik = nthB xs 0 ∧ FrV w base x.id (xs.drop 4)
  keep h hk := ⟨h.1, Frs.keep h.2 hk⟩
  mono h hb := ⟨h.1, Frs.mono h.2 hb⟩
  ty _ h := h
/-- What Parse returns. -/
def ParsedV (w : World) (k E : Int) (G : Gd) (e : Ending) (w' : World) : Prop := ∃ x : Pv, e = .returned (.tuple #[(.agg #[.int .i64 x.t, .slice x.pr.p x.pr.n x.pr.c, .int .i64 x.eg, .slice x.ed.p x.ed.n x.ed.c, .int .i64 x.ik, .slice x.id.p x.id.n x.id.c, .int .i64 x.am, .slice x.ad.p x.ad.n x.ad.c, .int .i64 x.np, .slice x.ns.p x.ns.n x.ns.c, .int .i64 x.nt, .slice x.nd.p x.nd.n x.nd.c, .int .i64 x.dp, .slice x.ds.p x.ds.n x.ds.c, .slice x.se.p x.se.n x.se.c, .slice x.da.p x.da.n x.da.c]), .int .i64 E]) ∧ Below w.heap.size w w' ∧ ((E = 0 ∧ x.t = k ∧ G.ok w.heap.size w' x) ∨ (E ≠ 0 ∧ x = zeroP))
end Go.Proofs.YtpocehpejbnemaaDoor
