/-
  Which payloads are the same: package payload's Same and the document's own, at payloads that can be read, both by one function of what is read.
-/
import Derived.Test.YtnbkffehhahckaaGreatJZ10
import Derived.Test.YtnbkffehhahckaaGreatJZ4
namespace Go.Proofs.YtnbkffehhahckaaGreat
open Go.RowKit
set_option linter.unusedVariables false
structure Pc where
  pr : List PrP
  ed : List Int
  id : List Int
  ad : List Int
  ns : List Int
  nd : List Int
  ds : List Sb
  se : List Sl
  da : List Int
structure PvRd (w : World) (x : Pv) (C : Pc) : Prop where
  pr : RdG KPr DPr w x.pr.p x.pr.n x.pr.c C.pr
  ed : Byt w x.ed.p x.ed.n x.ed.c C.ed
  id : Byt w x.id.p x.id.n x.id.c C.id
  ad : Byt w x.ad.p x.ad.n x.ad.c C.ad
  ns : Byt w x.ns.p x.ns.n x.ns.c C.ns
  nd : Byt w x.nd.p x.nd.n x.nd.c C.nd
  ds : RdG KSb DSb w x.ds.p x.ds.n x.ds.c C.ds
  se : RdG KSl DSlr w x.se.p x.se.n x.se.c C.se
  da : Byt w x.da.p x.da.n x.da.c C.da
theorem PvRd.below {w w' : World} {x : Pv} {C : Pc} (h : PvRd w x C) (hb : Below w.heap.size w w') : PvRd w' x C :=
  ⟨h.pr.below hb, h.ed.below hb, h.id.below hb, h.ad.below hb, h.ns.below hb, h.nd.below hb, h.ds.below hb, h.se.below hb, h.da.below hb⟩
def sameV (x : Pv) (C : Pc) (y : Pv) (D : Pc) : Bool :=
  if x.t ≠ y.t then false
  else if x.t = 33 then decide (C.pr.map PrP.pr = D.pr.map PrP.pr)
  else if x.t = 34 then decide (x.eg = y.eg) && decide (C.ed = D.ed)
  else if x.t = 35 ∨ x.t = 36 then decide (x.ik = y.ik) && decide (C.id = D.id)
  else if x.t = 39 then decide (x.am = y.am) && decide (C.ad = D.ad)
  else if x.t = 41 then decide (x.np = y.np) && decide (x.nt = y.nt) && decide (C.ns = D.ns) && decide (C.nd = D.nd)
  else if x.t = 42 then decide (x.dp = y.dp) && decide (C.ds.map Sb.xs = D.ds.map Sb.xs)
  else if x.t = 44 ∨ x.t = 45 then decide (C.se = D.se)
  else decide (C.da = D.da)
end Go.Proofs.YtnbkffehhahckaaGreat
