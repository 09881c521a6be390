/-
 Which payloads are the same: package payload's Same and the document's own, at payloads that can be read, both by one function of what is read.
 What stays readable when the blocks from a place on keep their cells.
-/
import Derived.Test.YtgpigjoonhghhaaGreatQZ12
import Derived.Test.YtgpigjoonhghhaaGreatQZ2
namespace Go.Proofs.YtgpigjoonhghhaaGreat
open Go.RowKit
set_option linter.unusedVariables false
structure Pc where
 pr:List PrP
 ed:List Int
 id:List Int
 ad:List Int
 ns:List Int
 nd:List Int
 ds:List Sb
 se:List Sl
 da:List Int
structure PvRd (w:World) (x:Pv) (C:Pc):Prop where
 pr:RdG KPr DPr w x.pr.p x.pr.n x.pr.c C.pr
 ed:Byt w x.ed.p x.ed.n x.ed.c C.ed
 id:Byt w x.id.p x.id.n x.id.c C.id
 ad:Byt w x.ad.p x.ad.n x.ad.c C.ad
 ns:Byt w x.ns.p x.ns.n x.ns.c C.ns
 nd:Byt w x.nd.p x.nd.n x.nd.c C.nd
 ds:RdG KSb DSb w x.ds.p x.ds.n x.ds.c C.ds
 se:RdG KSl DSlr w x.se.p x.se.n x.se.c C.se
 da:Byt w x.da.p x.da.n x.da.c C.da
theorem PvRd.below {w w':World} {x:Pv} {C:Pc} (h:PvRd w x C) (hb:Below w.heap.size w w'):PvRd w' x C :=
 ⟨h.pr.below hb,h.ed.below hb,h.id.below hb,h.ad.below hb,h.ns.below hb,h.nd.below hb,h.ds.below hb,h.se.below hb,h.da.below hb⟩
def sameV (x:Pv) (C:Pc) (y:Pv) (D:Pc):Bool :=
 if x.t≠y.t then false
 else if x.t=33 then decide (C.pr.map PrP.pr=D.pr.map PrP.pr)
 else if x.t=34 then decide (x.eg=y.eg) && decide (C.ed=D.ed)
 else if x.t=35∨x.t=36 then decide (x.ik=y.ik) && decide (C.id=D.id)
 else if x.t=39 then decide (x.am=y.am) && decide (C.ad=D.ad)
 else if x.t=41 then decide (x.np=y.np) && decide (x.nt=y.nt) && decide (C.ns=D.ns) && decide (C.nd=D.nd)
 else if x.t=42 then decide (x.dp=y.dp) && decide (C.ds.map Sb.xs=D.ds.map Sb.xs)
 else if x.t=44∨x.t=45 then decide (C.se=D.se)
 else decide (C.da=D.da)
end Go.Proofs.YtgpigjoonhghhaaGreat

namespace Go.Proofs.YtgpigjoonhghhaaGreat
open Go.RowKit
set_option linter.unusedVariables false
def Kpt (w w':World) (base:Nat):Prop:=∀ a v,base≤a.block→w.cell? a=some v→w'.cell? a=some v
theorem Kpt.refl (w:World) (base:Nat):Kpt w w base:=fun _ _ _ h=>h
theorem Kpt.mono {w w':World} {base base':Nat} (h:Kpt w w' base) (hb:base≤base'):Kpt w w' base':=fun a v ha hc=>h a v (by omega) hc
theorem Kpt.trans {a b c:World} {base:Nat} (h:Kpt a b base) (k:Kpt b c base):Kpt a c base:=fun x v hx hc=>k x v hx (h x v hx hc)
theorem Kpt.low {w w':World} {base r:Nat} (hg:w.grownBy w' (some r)) (hr:r<base):Kpt w w' base:=fun a v ha hc=>hg.cell hc (by simp;omega)
theorem Kpt.alloc (w:World) (o:Obj) (base:Nat):Kpt w (w.alloc o) base:=fun a v _ hc=>cell_below ((Below.refl _ w).alloc (Nat.le_refl _) o) a v hc
theorem Kpt.drew (w:World) (base r:Nat):Kpt w (w.drewN r) base:=fun a v _ hc=>hc
theorem Bod.kp {w w':World} {base:Nat} {p:Option Addr} {n c:Nat} {xs:List Int} (h:Bod w base p n c xs) (hk:Kpt w w' base):Byt w' p n c xs :=
 ⟨h.byt.len,h.byt.cap,h.byt.big,h.byt.rng,fun hn=>by
  obtain ⟨b,o,e,hc⟩:=h.byt.mem hn
  obtain ⟨b',o',cur,fz,e',hb,-⟩:=h.own (by have:=h.byt.len;omega)
  rw [e] at e'
  injection e' with e'
  injection e' with e1 e2
  subst e1
  exact ⟨b,o,e,fun i hi=>hk _ _ hb (hc i hi)⟩⟩
theorem RowG.kp {α:Type} {K:KindR α} {N:NestR α} {D:ReadN α} {w w':World} {base:Nat} {p:Option Addr} {n c:Nat} {l:List α} (h:RowG K N w base (.slice p n c) l) (hl:l.length=n) (hk:Kpt w w' base) (hd : ∀ x,N.ok w base x→D.ok w' x):RdG K D w' p n c l:=by
 have hok : ∀ x∈l,D.ok w' x:=fun x hx=>hd x (h.ok x hx)
 rcases h.own.2 with ⟨e,h0⟩ | ⟨g,cap,cur,e,hg,hh,hnc,hm,hs,ht⟩
 ·simp at e
  obtain ⟨rfl,rfl,rfl⟩:=e
  exact ⟨hl,by omega,by unfold maxLen;omega,fun h=>by omega,hok⟩
 ·simp at e
  obtain ⟨rfl,rfl,rfl⟩:=e
  refine ⟨hl,hnc,hm,fun h0=>⟨g,rfl,fun j u hj=>?_⟩,hok⟩
  have:=World.ownsRow.cells h.own (g:=g) rfl j u hj
  rw [WideShapes.add_plain,Nat.zero_add] at this
  exact hk _ _ hg this
theorem OkN.kp {w w':World} {base:Nat} {x:PrP} (h:OkN w base x) (hk:Kpt w w' base):OkD w' x:=by
 have hl:x.ts.length=x.tn:=by
  rcases h.ts.form rfl with ⟨p,c,e⟩
  simp at e
  exact e.2.1.symm
 exact ⟨h.int,h.s.kp hk,RowG.kp (D:=DTr) h.ts hl hk (fun _ h=>h)⟩
theorem rdg_nil {α:Type} (K:KindR α) (D:ReadN α) (w:World):RdG K D w none 0 0 []:=⟨rfl,Nat.le_refl _,by unfold maxLen;omega,fun h=>by omega,fun x hx=>by cases hx⟩
theorem byt_nil (w:World):Byt w none 0 0 []:=Byt.nil _ _ _ (by unfold maxLen;omega)
def PvKp (w:World) (base:Nat) (x:Pv) (C:Pc):Prop:=∀ w',Kpt w w' base→PvRd w' x C
theorem PvKp.rd {w:World} {base:Nat} {x:Pv} {C:Pc} (h:PvKp w base x C):PvRd w x C:=h w (Kpt.refl _ _)
theorem PvKp.step {w w':World} {base:Nat} {x:Pv} {C:Pc} (h:PvKp w base x C) (hk:Kpt w w' base):PvKp w' base x C:=fun w'' h2=>h w'' (hk.trans h2)
theorem PvKp.mono {w:World} {base base':Nat} {x:Pv} {C:Pc} (h:PvKp w base x C) (hb:base'≤base):PvKp w base' x C:=fun w' hk=>h w' (hk.mono hb)
end Go.Proofs.YtgpigjoonhghhaaGreat
