/-
 Which payloads are the same, where only the part that the type needs can be read.
 What package selector's read and Parse return, for any bytes.
 Package payload's reader of selectors.
 What the document's own package writes of an address.
 Plain mathematics, no program: the selector at a place of some bytes.
-/
import Derived.Test.YtgpigjoonhghhaaGreatQZ13
import Derived.Test.YtgpigjoonhghhaaGreatQZ18
import Derived.Test.YtgpigjoonhghhaaGreatQZ11
import Derived.Test.YtgpigjoonhghhaaGreatQZ4
import Derived.Test.YtgpigjoonhghhaaGreatQZ2
namespace Go.Proofs.YtgpigjoonhghhaaGreat
open Go.RowKit
set_option linter.unusedVariables false
structure R33 (w:World) (x:Pv) (C:Pc):Prop where
 pr:RdG KPr DPr w x.pr.p x.pr.n x.pr.c C.pr
structure R34 (w:World) (x:Pv) (C:Pc):Prop where
 ed:Byt w x.ed.p x.ed.n x.ed.c C.ed
structure R35 (w:World) (x:Pv) (C:Pc):Prop where
 id:Byt w x.id.p x.id.n x.id.c C.id
structure R39 (w:World) (x:Pv) (C:Pc):Prop where
 ad:Byt w x.ad.p x.ad.n x.ad.c C.ad
structure R41 (w:World) (x:Pv) (C:Pc):Prop where
 ns:Byt w x.ns.p x.ns.n x.ns.c C.ns
 nd:Byt w x.nd.p x.nd.n x.nd.c C.nd
structure R42 (w:World) (x:Pv) (C:Pc):Prop where
 ds:RdG KSb DSb w x.ds.p x.ds.n x.ds.c C.ds
structure R44 (w:World) (x:Pv) (C:Pc):Prop where
 se:RdG KSl DSlr w x.se.p x.se.n x.se.c C.se
structure RX (w:World) (x:Pv) (C:Pc):Prop where
 da:Byt w x.da.p x.da.n x.da.c C.da
structure PvRk (w:World) (x:Pv) (C:Pc):Prop where
 a33:x.t=33→R33 w x C
 a34:x.t=34→R34 w x C
 a35:x.t=35→R35 w x C
 a36:x.t=36→R35 w x C
 a39:x.t=39→R39 w x C
 a41:x.t=41→R41 w x C
 a42:x.t=42→R42 w x C
 a44:x.t=44→R44 w x C
 a45:x.t=45→R44 w x C
 aX:x.t≠33→x.t≠34→x.t≠35→x.t≠36→x.t≠39→x.t≠41→x.t≠42→x.t≠44→x.t≠45→RX w x C
theorem PvRd.rk {w:World} {x:Pv} {C:Pc} (h:PvRd w x C):PvRk w x C :=
 ⟨fun _=>⟨h.pr⟩,fun _=>⟨h.ed⟩,fun _=>⟨h.id⟩,fun _=>⟨h.id⟩,fun _=>⟨h.ad⟩,fun _=>⟨h.ns,h.nd⟩,fun _=>⟨h.ds⟩,fun _=>⟨h.se⟩,fun _=>⟨h.se⟩,fun _ _ _ _ _ _ _ _ _=>⟨h.da⟩⟩
theorem PvRk.below {w w':World} {x:Pv} {C:Pc} (h:PvRk w x C) (hb:Below w.heap.size w w'):PvRk w' x C :=
 ⟨fun e=>⟨(h.a33 e).pr.below hb⟩,fun e=>⟨(h.a34 e).ed.below hb⟩,fun e=>⟨(h.a35 e).id.below hb⟩,fun e=>⟨(h.a36 e).id.below hb⟩,fun e=>⟨(h.a39 e).ad.below hb⟩,fun e=>⟨(h.a41 e).ns.below hb,(h.a41 e).nd.below hb⟩,fun e=>⟨(h.a42 e).ds.below hb⟩,fun e=>⟨(h.a44 e).se.below hb⟩,fun e=>⟨(h.a45 e).se.below hb⟩,fun e1 e2 e3 e4 e5 e6 e7 e8 e9=>⟨(h.aX e1 e2 e3 e4 e5 e6 e7 e8 e9).da.below hb⟩⟩
set_option maxHeartbeats 1600000 in
set_option maxRecDepth 100000 in
theorem krsame33 (x y:Pv) (C D:Pc) (w:World) (hx0:PvRk w x C) (hy0:PvRk w y D) (hk:x.t=33) (hl:y.t=33) :
  Calls Tryz.prog 51 #[.agg #[.int .i64 33,.slice x.pr.p x.pr.n x.pr.c,.int .i64 x.eg,.slice x.ed.p x.ed.n x.ed.c,.int .i64 x.ik,.slice x.id.p x.id.n x.id.c,.int .i64 x.am,.slice x.ad.p x.ad.n x.ad.c,.int .i64 x.np,.slice x.ns.p x.ns.n x.ns.c,.int .i64 x.nt,.slice x.nd.p x.nd.n x.nd.c,.int .i64 x.dp,.slice x.ds.p x.ds.n x.ds.c,.slice x.se.p x.se.n x.se.c,.slice x.da.p x.da.n x.da.c],.agg #[.int .i64 33,.slice y.pr.p y.pr.n y.pr.c,.int .i64 y.eg,.slice y.ed.p y.ed.n y.ed.c,.int .i64 y.ik,.slice y.id.p y.id.n y.id.c,.int .i64 y.am,.slice y.ad.p y.ad.n y.ad.c,.int .i64 y.np,.slice y.ns.p y.ns.n y.ns.c,.int .i64 y.nt,.slice y.nd.p y.nd.n y.nd.c,.int .i64 y.dp,.slice y.ds.p y.ds.n y.ds.c,.slice y.se.p y.se.n y.se.c,.slice y.da.p y.da.n y.da.c]] w fun e w'=>e=.returned (.bool (sameV x C y D))∧Below w.heap.size w w':=by
 have hx:=hx0.a33 hk
 have hy:=hy0.a33 hl
 clear hx0 hy0
 have HB:=hidden (below2 w (.cells #[.int .i64 33,.slice x.pr.p x.pr.n x.pr.c,.int .i64 x.eg,.slice x.ed.p x.ed.n x.ed.c,.int .i64 x.ik,.slice x.id.p x.id.n x.id.c,.int .i64 x.am,.slice x.ad.p x.ad.n x.ad.c,.int .i64 x.np,.slice x.ns.p x.ns.n x.ns.c,.int .i64 x.nt,.slice x.nd.p x.nd.n x.nd.c,.int .i64 x.dp,.slice x.ds.p x.ds.n x.ds.c,.slice x.se.p x.se.n x.se.c,.slice x.da.p x.da.n x.da.c] 49) (.cells #[.int .i64 33,.slice y.pr.p y.pr.n y.pr.c,.int .i64 y.eg,.slice y.ed.p y.ed.n y.ed.c,.int .i64 y.ik,.slice y.id.p y.id.n y.id.c,.int .i64 y.am,.slice y.ad.p y.ad.n y.ad.c,.int .i64 y.np,.slice y.ns.p y.ns.n y.ns.c,.int .i64 y.nt,.slice y.nd.p y.nd.n y.nd.c,.int .i64 y.dp,.slice y.ds.p y.ds.n y.ds.c,.slice y.se.p y.se.n y.se.c,.slice y.da.p y.da.n y.da.c] 49))
 have HS:Hid (sameV x C y D=decide (C.pr.map PrP.pr=D.pr.map PrP.pr)):=hidden (by unfold sameV;simp [hk,hl])
 have HE:=hidden (same4_any _ _ _ _ _ _ _ _ _ (hx.pr.below HB.out) (hy.pr.below HB.out))
 clear hx hy hk hl
 go_enter Tryz.func51,Tryz.ntmps51
 go_wp2_with (go_at_call 67;(with_reducible refine (HE.out).mono ?_);rintro e w1 ⟨rfl,hb⟩;have HB2:=hidden (HB.out.trans (hb.mono HB.out.size));clear hb)
 go_ret
 exact ⟨by rw [HS.out];rfl,HB2.out⟩
set_option maxHeartbeats 1600000 in
set_option maxRecDepth 100000 in
theorem krsame34 (x y:Pv) (C D:Pc) (w:World) (hx0:PvRk w x C) (hy0:PvRk w y D) (hk:x.t=34) (hl:y.t=34) :
  Calls Tryz.prog 51 #[.agg #[.int .i64 34,.slice x.pr.p x.pr.n x.pr.c,.int .i64 x.eg,.slice x.ed.p x.ed.n x.ed.c,.int .i64 x.ik,.slice x.id.p x.id.n x.id.c,.int .i64 x.am,.slice x.ad.p x.ad.n x.ad.c,.int .i64 x.np,.slice x.ns.p x.ns.n x.ns.c,.int .i64 x.nt,.slice x.nd.p x.nd.n x.nd.c,.int .i64 x.dp,.slice x.ds.p x.ds.n x.ds.c,.slice x.se.p x.se.n x.se.c,.slice x.da.p x.da.n x.da.c],.agg #[.int .i64 34,.slice y.pr.p y.pr.n y.pr.c,.int .i64 y.eg,.slice y.ed.p y.ed.n y.ed.c,.int .i64 y.ik,.slice y.id.p y.id.n y.id.c,.int .i64 y.am,.slice y.ad.p y.ad.n y.ad.c,.int .i64 y.np,.slice y.ns.p y.ns.n y.ns.c,.int .i64 y.nt,.slice y.nd.p y.nd.n y.nd.c,.int .i64 y.dp,.slice y.ds.p y.ds.n y.ds.c,.slice y.se.p y.se.n y.se.c,.slice y.da.p y.da.n y.da.c]] w fun e w'=>e=.returned (.bool (sameV x C y D))∧Below w.heap.size w w':=by
 have hx:=hx0.a34 hk
 have hy:=hy0.a34 hl
 clear hx0 hy0
 have HB:=hidden (below2 w (.cells #[.int .i64 34,.slice x.pr.p x.pr.n x.pr.c,.int .i64 x.eg,.slice x.ed.p x.ed.n x.ed.c,.int .i64 x.ik,.slice x.id.p x.id.n x.id.c,.int .i64 x.am,.slice x.ad.p x.ad.n x.ad.c,.int .i64 x.np,.slice x.ns.p x.ns.n x.ns.c,.int .i64 x.nt,.slice x.nd.p x.nd.n x.nd.c,.int .i64 x.dp,.slice x.ds.p x.ds.n x.ds.c,.slice x.se.p x.se.n x.se.c,.slice x.da.p x.da.n x.da.c] 49) (.cells #[.int .i64 34,.slice y.pr.p y.pr.n y.pr.c,.int .i64 y.eg,.slice y.ed.p y.ed.n y.ed.c,.int .i64 y.ik,.slice y.id.p y.id.n y.id.c,.int .i64 y.am,.slice y.ad.p y.ad.n y.ad.c,.int .i64 y.np,.slice y.ns.p y.ns.n y.ns.c,.int .i64 y.nt,.slice y.nd.p y.nd.n y.nd.c,.int .i64 y.dp,.slice y.ds.p y.ds.n y.ds.c,.slice y.se.p y.se.n y.se.c,.slice y.da.p y.da.n y.da.c] 49))
 obtain ⟨b1,hb1⟩ : ∃ b,decide (C.ed=D.ed)=b:=⟨_,rfl⟩
 have Hb1:=hidden (fun W (hb:Below w.heap.size w W)=>requal_any _ _ _ _ _ _ _ _ W (hx.ed.below hb) (hy.ed.below hb))
 rw [hb1] at Hb1
 by_cases h1:x.eg=y.eg
 rotate_left
 ·have e1:(x.eg == y.eg)=false:=by simpa using h1
  have HS:Hid (sameV x C y D=false):=hidden (by unfold sameV;simp [hk,hl,h1])
  clear hx hy hb1 h1 hk hl
  go_enter Tryz.func51,Tryz.ntmps51
  go_wp2_with fail
  go_ret
  exact ⟨by rw [HS.out];rfl,HB.out⟩
 have e1:(x.eg == y.eg)=true:=by simpa using h1
 have HS:Hid (sameV x C y D=b1):=hidden (by rw [←hb1];unfold sameV;simp [hk,hl,h1])
 clear hx hy hb1 h1 hk hl
 go_enter Tryz.func51,Tryz.ntmps51
 go_wp2_with (go_at_call 69;(with_reducible refine (Hb1.out _ HB.out).mono ?_);rintro e w_b1 ⟨rfl,r_b1,rfl⟩;have HB_b1:=hidden (HB.out.trans ((drew_below ⟨r_b1,rfl⟩).mono HB.out.size));clear Hb1)
 go_ret
 exact ⟨by rw [HS.out];rfl,HB_b1.out⟩
set_option maxHeartbeats 1600000 in
set_option maxRecDepth 100000 in
theorem krsame35 (x y:Pv) (C D:Pc) (w:World) (hx0:PvRk w x C) (hy0:PvRk w y D) (hk:x.t=35) (hl:y.t=35) :
  Calls Tryz.prog 51 #[.agg #[.int .i64 35,.slice x.pr.p x.pr.n x.pr.c,.int .i64 x.eg,.slice x.ed.p x.ed.n x.ed.c,.int .i64 x.ik,.slice x.id.p x.id.n x.id.c,.int .i64 x.am,.slice x.ad.p x.ad.n x.ad.c,.int .i64 x.np,.slice x.ns.p x.ns.n x.ns.c,.int .i64 x.nt,.slice x.nd.p x.nd.n x.nd.c,.int .i64 x.dp,.slice x.ds.p x.ds.n x.ds.c,.slice x.se.p x.se.n x.se.c,.slice x.da.p x.da.n x.da.c],.agg #[.int .i64 35,.slice y.pr.p y.pr.n y.pr.c,.int .i64 y.eg,.slice y.ed.p y.ed.n y.ed.c,.int .i64 y.ik,.slice y.id.p y.id.n y.id.c,.int .i64 y.am,.slice y.ad.p y.ad.n y.ad.c,.int .i64 y.np,.slice y.ns.p y.ns.n y.ns.c,.int .i64 y.nt,.slice y.nd.p y.nd.n y.nd.c,.int .i64 y.dp,.slice y.ds.p y.ds.n y.ds.c,.slice y.se.p y.se.n y.se.c,.slice y.da.p y.da.n y.da.c]] w fun e w'=>e=.returned (.bool (sameV x C y D))∧Below w.heap.size w w':=by
 have hx:=hx0.a35 hk
 have hy:=hy0.a35 hl
 clear hx0 hy0
 have HB:=hidden (below2 w (.cells #[.int .i64 35,.slice x.pr.p x.pr.n x.pr.c,.int .i64 x.eg,.slice x.ed.p x.ed.n x.ed.c,.int .i64 x.ik,.slice x.id.p x.id.n x.id.c,.int .i64 x.am,.slice x.ad.p x.ad.n x.ad.c,.int .i64 x.np,.slice x.ns.p x.ns.n x.ns.c,.int .i64 x.nt,.slice x.nd.p x.nd.n x.nd.c,.int .i64 x.dp,.slice x.ds.p x.ds.n x.ds.c,.slice x.se.p x.se.n x.se.c,.slice x.da.p x.da.n x.da.c] 49) (.cells #[.int .i64 35,.slice y.pr.p y.pr.n y.pr.c,.int .i64 y.eg,.slice y.ed.p y.ed.n y.ed.c,.int .i64 y.ik,.slice y.id.p y.id.n y.id.c,.int .i64 y.am,.slice y.ad.p y.ad.n y.ad.c,.int .i64 y.np,.slice y.ns.p y.ns.n y.ns.c,.int .i64 y.nt,.slice y.nd.p y.nd.n y.nd.c,.int .i64 y.dp,.slice y.ds.p y.ds.n y.ds.c,.slice y.se.p y.se.n y.se.c,.slice y.da.p y.da.n y.da.c] 49))
 obtain ⟨b1,hb1⟩ : ∃ b,decide (C.id=D.id)=b:=⟨_,rfl⟩
 have Hb1:=hidden (fun W (hb:Below w.heap.size w W)=>requal_any _ _ _ _ _ _ _ _ W (hx.id.below hb) (hy.id.below hb))
 rw [hb1] at Hb1
 by_cases h1:x.ik=y.ik
 rotate_left
 ·have e1:(x.ik == y.ik)=false:=by simpa using h1
  have HS:Hid (sameV x C y D=false):=hidden (by unfold sameV;simp [hk,hl,h1])
  clear hx hy hb1 h1 hk hl
  go_enter Tryz.func51,Tryz.ntmps51
  go_wp2_with fail
  go_ret
  exact ⟨by rw [HS.out];rfl,HB.out⟩
 have e1:(x.ik == y.ik)=true:=by simpa using h1
 have HS:Hid (sameV x C y D=b1):=hidden (by rw [←hb1];unfold sameV;simp [hk,hl,h1])
 clear hx hy hb1 h1 hk hl
 go_enter Tryz.func51,Tryz.ntmps51
 go_wp2_with (go_at_call 69;(with_reducible refine (Hb1.out _ HB.out).mono ?_);rintro e w_b1 ⟨rfl,r_b1,rfl⟩;have HB_b1:=hidden (HB.out.trans ((drew_below ⟨r_b1,rfl⟩).mono HB.out.size));clear Hb1)
 go_ret
 exact ⟨by rw [HS.out];rfl,HB_b1.out⟩
set_option maxHeartbeats 1600000 in
set_option maxRecDepth 100000 in
theorem krsame36 (x y:Pv) (C D:Pc) (w:World) (hx0:PvRk w x C) (hy0:PvRk w y D) (hk:x.t=36) (hl:y.t=36) :
  Calls Tryz.prog 51 #[.agg #[.int .i64 36,.slice x.pr.p x.pr.n x.pr.c,.int .i64 x.eg,.slice x.ed.p x.ed.n x.ed.c,.int .i64 x.ik,.slice x.id.p x.id.n x.id.c,.int .i64 x.am,.slice x.ad.p x.ad.n x.ad.c,.int .i64 x.np,.slice x.ns.p x.ns.n x.ns.c,.int .i64 x.nt,.slice x.nd.p x.nd.n x.nd.c,.int .i64 x.dp,.slice x.ds.p x.ds.n x.ds.c,.slice x.se.p x.se.n x.se.c,.slice x.da.p x.da.n x.da.c],.agg #[.int .i64 36,.slice y.pr.p y.pr.n y.pr.c,.int .i64 y.eg,.slice y.ed.p y.ed.n y.ed.c,.int .i64 y.ik,.slice y.id.p y.id.n y.id.c,.int .i64 y.am,.slice y.ad.p y.ad.n y.ad.c,.int .i64 y.np,.slice y.ns.p y.ns.n y.ns.c,.int .i64 y.nt,.slice y.nd.p y.nd.n y.nd.c,.int .i64 y.dp,.slice y.ds.p y.ds.n y.ds.c,.slice y.se.p y.se.n y.se.c,.slice y.da.p y.da.n y.da.c]] w fun e w'=>e=.returned (.bool (sameV x C y D))∧Below w.heap.size w w':=by
 have hx:=hx0.a36 hk
 have hy:=hy0.a36 hl
 clear hx0 hy0
 have HB:=hidden (below2 w (.cells #[.int .i64 36,.slice x.pr.p x.pr.n x.pr.c,.int .i64 x.eg,.slice x.ed.p x.ed.n x.ed.c,.int .i64 x.ik,.slice x.id.p x.id.n x.id.c,.int .i64 x.am,.slice x.ad.p x.ad.n x.ad.c,.int .i64 x.np,.slice x.ns.p x.ns.n x.ns.c,.int .i64 x.nt,.slice x.nd.p x.nd.n x.nd.c,.int .i64 x.dp,.slice x.ds.p x.ds.n x.ds.c,.slice x.se.p x.se.n x.se.c,.slice x.da.p x.da.n x.da.c] 49) (.cells #[.int .i64 36,.slice y.pr.p y.pr.n y.pr.c,.int .i64 y.eg,.slice y.ed.p y.ed.n y.ed.c,.int .i64 y.ik,.slice y.id.p y.id.n y.id.c,.int .i64 y.am,.slice y.ad.p y.ad.n y.ad.c,.int .i64 y.np,.slice y.ns.p y.ns.n y.ns.c,.int .i64 y.nt,.slice y.nd.p y.nd.n y.nd.c,.int .i64 y.dp,.slice y.ds.p y.ds.n y.ds.c,.slice y.se.p y.se.n y.se.c,.slice y.da.p y.da.n y.da.c] 49))
 obtain ⟨b1,hb1⟩ : ∃ b,decide (C.id=D.id)=b:=⟨_,rfl⟩
 have Hb1:=hidden (fun W (hb:Below w.heap.size w W)=>requal_any _ _ _ _ _ _ _ _ W (hx.id.below hb) (hy.id.below hb))
 rw [hb1] at Hb1
 by_cases h1:x.ik=y.ik
 rotate_left
 ·have e1:(x.ik == y.ik)=false:=by simpa using h1
  have HS:Hid (sameV x C y D=false):=hidden (by unfold sameV;simp [hk,hl,h1])
  clear hx hy hb1 h1 hk hl
  go_enter Tryz.func51,Tryz.ntmps51
  go_wp2_with fail
  go_ret
  exact ⟨by rw [HS.out];rfl,HB.out⟩
 have e1:(x.ik == y.ik)=true:=by simpa using h1
 have HS:Hid (sameV x C y D=b1):=hidden (by rw [←hb1];unfold sameV;simp [hk,hl,h1])
 clear hx hy hb1 h1 hk hl
 go_enter Tryz.func51,Tryz.ntmps51
 go_wp2_with (go_at_call 69;(with_reducible refine (Hb1.out _ HB.out).mono ?_);rintro e w_b1 ⟨rfl,r_b1,rfl⟩;have HB_b1:=hidden (HB.out.trans ((drew_below ⟨r_b1,rfl⟩).mono HB.out.size));clear Hb1)
 go_ret
 exact ⟨by rw [HS.out];rfl,HB_b1.out⟩
set_option maxHeartbeats 1600000 in
set_option maxRecDepth 100000 in
theorem krsame39 (x y:Pv) (C D:Pc) (w:World) (hx0:PvRk w x C) (hy0:PvRk w y D) (hk:x.t=39) (hl:y.t=39) :
  Calls Tryz.prog 51 #[.agg #[.int .i64 39,.slice x.pr.p x.pr.n x.pr.c,.int .i64 x.eg,.slice x.ed.p x.ed.n x.ed.c,.int .i64 x.ik,.slice x.id.p x.id.n x.id.c,.int .i64 x.am,.slice x.ad.p x.ad.n x.ad.c,.int .i64 x.np,.slice x.ns.p x.ns.n x.ns.c,.int .i64 x.nt,.slice x.nd.p x.nd.n x.nd.c,.int .i64 x.dp,.slice x.ds.p x.ds.n x.ds.c,.slice x.se.p x.se.n x.se.c,.slice x.da.p x.da.n x.da.c],.agg #[.int .i64 39,.slice y.pr.p y.pr.n y.pr.c,.int .i64 y.eg,.slice y.ed.p y.ed.n y.ed.c,.int .i64 y.ik,.slice y.id.p y.id.n y.id.c,.int .i64 y.am,.slice y.ad.p y.ad.n y.ad.c,.int .i64 y.np,.slice y.ns.p y.ns.n y.ns.c,.int .i64 y.nt,.slice y.nd.p y.nd.n y.nd.c,.int .i64 y.dp,.slice y.ds.p y.ds.n y.ds.c,.slice y.se.p y.se.n y.se.c,.slice y.da.p y.da.n y.da.c]] w fun e w'=>e=.returned (.bool (sameV x C y D))∧Below w.heap.size w w':=by
 have hx:=hx0.a39 hk
 have hy:=hy0.a39 hl
 clear hx0 hy0
 have HB:=hidden (below2 w (.cells #[.int .i64 39,.slice x.pr.p x.pr.n x.pr.c,.int .i64 x.eg,.slice x.ed.p x.ed.n x.ed.c,.int .i64 x.ik,.slice x.id.p x.id.n x.id.c,.int .i64 x.am,.slice x.ad.p x.ad.n x.ad.c,.int .i64 x.np,.slice x.ns.p x.ns.n x.ns.c,.int .i64 x.nt,.slice x.nd.p x.nd.n x.nd.c,.int .i64 x.dp,.slice x.ds.p x.ds.n x.ds.c,.slice x.se.p x.se.n x.se.c,.slice x.da.p x.da.n x.da.c] 49) (.cells #[.int .i64 39,.slice y.pr.p y.pr.n y.pr.c,.int .i64 y.eg,.slice y.ed.p y.ed.n y.ed.c,.int .i64 y.ik,.slice y.id.p y.id.n y.id.c,.int .i64 y.am,.slice y.ad.p y.ad.n y.ad.c,.int .i64 y.np,.slice y.ns.p y.ns.n y.ns.c,.int .i64 y.nt,.slice y.nd.p y.nd.n y.nd.c,.int .i64 y.dp,.slice y.ds.p y.ds.n y.ds.c,.slice y.se.p y.se.n y.se.c,.slice y.da.p y.da.n y.da.c] 49))
 obtain ⟨b1,hb1⟩ : ∃ b,decide (C.ad=D.ad)=b:=⟨_,rfl⟩
 have Hb1:=hidden (fun W (hb:Below w.heap.size w W)=>requal_any _ _ _ _ _ _ _ _ W (hx.ad.below hb) (hy.ad.below hb))
 rw [hb1] at Hb1
 by_cases h1:x.am=y.am
 rotate_left
 ·have e1:(x.am == y.am)=false:=by simpa using h1
  have HS:Hid (sameV x C y D=false):=hidden (by unfold sameV;simp [hk,hl,h1])
  clear hx hy hb1 h1 hk hl
  go_enter Tryz.func51,Tryz.ntmps51
  go_wp2_with fail
  go_ret
  exact ⟨by rw [HS.out];rfl,HB.out⟩
 have e1:(x.am == y.am)=true:=by simpa using h1
 have HS:Hid (sameV x C y D=b1):=hidden (by rw [←hb1];unfold sameV;simp [hk,hl,h1])
 clear hx hy hb1 h1 hk hl
 go_enter Tryz.func51,Tryz.ntmps51
 go_wp2_with (go_at_call 69;(with_reducible refine (Hb1.out _ HB.out).mono ?_);rintro e w_b1 ⟨rfl,r_b1,rfl⟩;have HB_b1:=hidden (HB.out.trans ((drew_below ⟨r_b1,rfl⟩).mono HB.out.size));clear Hb1)
 go_ret
 exact ⟨by rw [HS.out];rfl,HB_b1.out⟩
set_option maxHeartbeats 1600000 in
set_option maxRecDepth 100000 in
theorem krsame41 (x y:Pv) (C D:Pc) (w:World) (hx0:PvRk w x C) (hy0:PvRk w y D) (hk:x.t=41) (hl:y.t=41) :
  Calls Tryz.prog 51 #[.agg #[.int .i64 41,.slice x.pr.p x.pr.n x.pr.c,.int .i64 x.eg,.slice x.ed.p x.ed.n x.ed.c,.int .i64 x.ik,.slice x.id.p x.id.n x.id.c,.int .i64 x.am,.slice x.ad.p x.ad.n x.ad.c,.int .i64 x.np,.slice x.ns.p x.ns.n x.ns.c,.int .i64 x.nt,.slice x.nd.p x.nd.n x.nd.c,.int .i64 x.dp,.slice x.ds.p x.ds.n x.ds.c,.slice x.se.p x.se.n x.se.c,.slice x.da.p x.da.n x.da.c],.agg #[.int .i64 41,.slice y.pr.p y.pr.n y.pr.c,.int .i64 y.eg,.slice y.ed.p y.ed.n y.ed.c,.int .i64 y.ik,.slice y.id.p y.id.n y.id.c,.int .i64 y.am,.slice y.ad.p y.ad.n y.ad.c,.int .i64 y.np,.slice y.ns.p y.ns.n y.ns.c,.int .i64 y.nt,.slice y.nd.p y.nd.n y.nd.c,.int .i64 y.dp,.slice y.ds.p y.ds.n y.ds.c,.slice y.se.p y.se.n y.se.c,.slice y.da.p y.da.n y.da.c]] w fun e w'=>e=.returned (.bool (sameV x C y D))∧Below w.heap.size w w':=by
 have hx:=hx0.a41 hk
 have hy:=hy0.a41 hl
 clear hx0 hy0
 have HB:=hidden (below2 w (.cells #[.int .i64 41,.slice x.pr.p x.pr.n x.pr.c,.int .i64 x.eg,.slice x.ed.p x.ed.n x.ed.c,.int .i64 x.ik,.slice x.id.p x.id.n x.id.c,.int .i64 x.am,.slice x.ad.p x.ad.n x.ad.c,.int .i64 x.np,.slice x.ns.p x.ns.n x.ns.c,.int .i64 x.nt,.slice x.nd.p x.nd.n x.nd.c,.int .i64 x.dp,.slice x.ds.p x.ds.n x.ds.c,.slice x.se.p x.se.n x.se.c,.slice x.da.p x.da.n x.da.c] 49) (.cells #[.int .i64 41,.slice y.pr.p y.pr.n y.pr.c,.int .i64 y.eg,.slice y.ed.p y.ed.n y.ed.c,.int .i64 y.ik,.slice y.id.p y.id.n y.id.c,.int .i64 y.am,.slice y.ad.p y.ad.n y.ad.c,.int .i64 y.np,.slice y.ns.p y.ns.n y.ns.c,.int .i64 y.nt,.slice y.nd.p y.nd.n y.nd.c,.int .i64 y.dp,.slice y.ds.p y.ds.n y.ds.c,.slice y.se.p y.se.n y.se.c,.slice y.da.p y.da.n y.da.c] 49))
 obtain ⟨b1,hb1⟩ : ∃ b,decide (C.ns=D.ns)=b:=⟨_,rfl⟩
 have Hb1:=hidden (fun W (hb:Below w.heap.size w W)=>requal_any _ _ _ _ _ _ _ _ W (hx.ns.below hb) (hy.ns.below hb))
 rw [hb1] at Hb1
 obtain ⟨b2,hb2⟩ : ∃ b,decide (C.nd=D.nd)=b:=⟨_,rfl⟩
 have Hb2:=hidden (fun W (hb:Below w.heap.size w W)=>requal_any _ _ _ _ _ _ _ _ W (hx.nd.below hb) (hy.nd.below hb))
 rw [hb2] at Hb2
 by_cases h1:x.np=y.np
 rotate_left
 ·have e1:(x.np == y.np)=false:=by simpa using h1
  have HS:Hid (sameV x C y D=false):=hidden (by unfold sameV;simp [hk,hl,h1])
  clear hx hy hb1 hb2 hk hl
  clear h1
  go_enter Tryz.func51,Tryz.ntmps51
  go_wp2_with fail
  go_ret
  exact ⟨by rw [HS.out];rfl,HB.out⟩
 have e1:(x.np == y.np)=true:=by simpa using h1
 by_cases h2:x.nt=y.nt
 rotate_left
 ·have e2:(x.nt == y.nt)=false:=by simpa using h2
  have HS:Hid (sameV x C y D=false):=hidden (by unfold sameV;simp [hk,hl,h2])
  clear hx hy hb1 hb2 hk hl
  clear h1 h2
  go_enter Tryz.func51,Tryz.ntmps51
  go_wp2_with fail
  go_ret
  exact ⟨by rw [HS.out];rfl,HB.out⟩
 have e2:(x.nt == y.nt)=true:=by simpa using h2
 have HS:Hid (sameV x C y D=(b1 && b2)):=hidden (by rw [←hb1,←hb2];unfold sameV;simp [hk,hl,h1,h2])
 clear hx hy hb1 hb2 h1 h2 hk hl
 cases b1 with
 | false =>
  go_enter Tryz.func51,Tryz.ntmps51
  go_wp2_with (go_at_call 69;(with_reducible refine (Hb1.out _ HB.out).mono ?_);rintro e w_b1 ⟨rfl,r_b1,rfl⟩;have HB_b1:=hidden (HB.out.trans ((drew_below ⟨r_b1,rfl⟩).mono HB.out.size));clear Hb1)
  go_ret
  exact ⟨by rw [HS.out];rfl,HB_b1.out⟩
 | true =>
  go_enter Tryz.func51,Tryz.ntmps51
  go_wp2_with (first
   | (go_at_call 69;(with_reducible refine (Hb1.out _ HB.out).mono ?_);rintro e w_b1 ⟨rfl,r_b1,rfl⟩;have HB_b1:=hidden (HB.out.trans ((drew_below ⟨r_b1,rfl⟩).mono HB.out.size));clear Hb1)
   | (go_at_call 69;(with_reducible refine (Hb2.out _ HB_b1.out).mono ?_);rintro e w_b2 ⟨rfl,r_b2,rfl⟩;have HB_b2:=hidden (HB_b1.out.trans ((drew_below ⟨r_b2,rfl⟩).mono HB_b1.out.size));clear Hb2)
   | fail)
  go_ret
  exact ⟨by rw [HS.out];rfl,HB.out.trans ((drew_below ⟨_,rfl⟩).mono HB.out.size)⟩
set_option maxHeartbeats 1600000 in
set_option maxRecDepth 100000 in
theorem krsame42 (x y:Pv) (C D:Pc) (w:World) (hx0:PvRk w x C) (hy0:PvRk w y D) (hk:x.t=42) (hl:y.t=42) :
  Calls Tryz.prog 51 #[.agg #[.int .i64 42,.slice x.pr.p x.pr.n x.pr.c,.int .i64 x.eg,.slice x.ed.p x.ed.n x.ed.c,.int .i64 x.ik,.slice x.id.p x.id.n x.id.c,.int .i64 x.am,.slice x.ad.p x.ad.n x.ad.c,.int .i64 x.np,.slice x.ns.p x.ns.n x.ns.c,.int .i64 x.nt,.slice x.nd.p x.nd.n x.nd.c,.int .i64 x.dp,.slice x.ds.p x.ds.n x.ds.c,.slice x.se.p x.se.n x.se.c,.slice x.da.p x.da.n x.da.c],.agg #[.int .i64 42,.slice y.pr.p y.pr.n y.pr.c,.int .i64 y.eg,.slice y.ed.p y.ed.n y.ed.c,.int .i64 y.ik,.slice y.id.p y.id.n y.id.c,.int .i64 y.am,.slice y.ad.p y.ad.n y.ad.c,.int .i64 y.np,.slice y.ns.p y.ns.n y.ns.c,.int .i64 y.nt,.slice y.nd.p y.nd.n y.nd.c,.int .i64 y.dp,.slice y.ds.p y.ds.n y.ds.c,.slice y.se.p y.se.n y.se.c,.slice y.da.p y.da.n y.da.c]] w fun e w'=>e=.returned (.bool (sameV x C y D))∧Below w.heap.size w w':=by
 have hx:=hx0.a42 hk
 have hy:=hy0.a42 hl
 clear hx0 hy0
 have HB:=hidden (below2 w (.cells #[.int .i64 42,.slice x.pr.p x.pr.n x.pr.c,.int .i64 x.eg,.slice x.ed.p x.ed.n x.ed.c,.int .i64 x.ik,.slice x.id.p x.id.n x.id.c,.int .i64 x.am,.slice x.ad.p x.ad.n x.ad.c,.int .i64 x.np,.slice x.ns.p x.ns.n x.ns.c,.int .i64 x.nt,.slice x.nd.p x.nd.n x.nd.c,.int .i64 x.dp,.slice x.ds.p x.ds.n x.ds.c,.slice x.se.p x.se.n x.se.c,.slice x.da.p x.da.n x.da.c] 49) (.cells #[.int .i64 42,.slice y.pr.p y.pr.n y.pr.c,.int .i64 y.eg,.slice y.ed.p y.ed.n y.ed.c,.int .i64 y.ik,.slice y.id.p y.id.n y.id.c,.int .i64 y.am,.slice y.ad.p y.ad.n y.ad.c,.int .i64 y.np,.slice y.ns.p y.ns.n y.ns.c,.int .i64 y.nt,.slice y.nd.p y.nd.n y.nd.c,.int .i64 y.dp,.slice y.ds.p y.ds.n y.ds.c,.slice y.se.p y.se.n y.se.c,.slice y.da.p y.da.n y.da.c] 49))
 by_cases h1:x.dp=y.dp
 rotate_left
 ·have e1:(x.dp != y.dp)=true:=by simpa using h1
  have HS:Hid (sameV x C y D=false):=hidden (by unfold sameV;simp [hk,hl,h1])
  clear hx hy h1 hk hl
  go_enter Tryz.func51,Tryz.ntmps51
  go_wp2_with fail
  go_ret
  exact ⟨by rw [HS.out];rfl,HB.out⟩
 have HS:Hid (sameV x C y D=decide (C.ds.map Sb.xs=D.ds.map Sb.xs)):=hidden (by unfold sameV;simp [hk,hl,h1])
 have e1:(x.dp != y.dp)=false:=by simpa using h1
 have H:=hidden (hx.ds.below HB.out)
 have K:=hidden (hy.ds.below HB.out)
 have hn:=hx.ds.le
 have hm:=hy.ds.le
 have HL:Hid ((C.ds.map Sb.xs).length=x.ds.n):=hidden (by rw [List.length_map,hx.ds.len])
 have KL:Hid ((D.ds.map Sb.xs).length=y.ds.n):=hidden (by rw [List.length_map,hy.ds.len])
 clear hx hy h1 hk hl
 by_cases hnm:x.ds.n=y.ds.n
 rotate_left
 ·have hne:((x.ds.n:Int) != (y.ds.n:Int))=true:=by simp;omega
  have hd:=decide_eq_false (differ_len HL.out KL.out hnm)
  clear hnm
  go_enter Tryz.func51,Tryz.ntmps51
  go_wp2
  go_ret
  exact ⟨by rw [HS.out,hd];rfl,HB.out⟩
 have hne:((x.ds.n:Int) != (y.ds.n:Int))=false:=by simp;omega
 have HNM:=hidden hnm
 have KL2:Hid ((D.ds.map Sb.xs).length=x.ds.n):=hidden (by rw [KL.out,hnm])
 clear hnm
 go_enter Tryz.func51,Tryz.ntmps51
 go_wp2_with fail
 go_loopw [5] (fun i wr=>∃ j:Nat,j≤x.ds.n∧i=.int .i64 j∧(C.ds.map Sb.xs).take j=(D.ds.map Sb.xs).take j∧wr.cell? ⟨w.heap.size,13,none⟩=some (.slice x.ds.p x.ds.n x.ds.c)∧wr.cell? ⟨w.heap.size+1,13,none⟩=some (.slice y.ds.p y.ds.n y.ds.c)∧RdG KSb DSb wr x.ds.p x.ds.n x.ds.c C.ds∧RdG KSb DSb wr y.ds.p y.ds.n y.ds.c D.ds∧Below w.heap.size w wr) (fun i _=>x.ds.n - (intOf i).toNat)
 case atStart=>exact ⟨0,by omega,rfl,by simp,by go_simp,by go_simp,H.out,K.out,HB.out⟩
 case round =>
  obtain ⟨j,hj,rfl,ht,f,g,hh,hk,hbel⟩:=hrel
  have HBL:=hidden hbel
  have HT:=hidden ht
  have HF:=hidden f
  have HG:=hidden g
  have H1:=hidden hh
  have K1:=hidden hk
  clear hbel ht hh hk
  by_cases hlt:¬ j<x.ds.n
  ·obtain rfl:j=x.ds.n:=by omega
   have hd:=decide_eq_true (take_whole HL.out KL2.out HT.out)
   go_wp2
   go_ret
   exact ⟨by rw [HS.out,hd];rfl,HBL.out⟩
  replace hlt:j<x.ds.n:=by omega
  have hlt':(j:Int)<x.ds.n:=by omega
  have hlt2:(j:Int)<y.ds.n:=by have:=HNM.out;omega
  have hja:j<C.ds.length:=by rw [H.out.len];exact hlt
  have hjb:j<D.ds.length:=by have:=HNM.out;rw [K.out.len];omega
  obtain ⟨ga,hga,hc,hok⟩:=H1.out.cell j hja
  obtain ⟨gb,hgb,hc2,hok2⟩:=K1.out.cell j hjb
  rw [hga] at f
  rw [hgb] at g
  obtain ⟨u,hu⟩ : ∃ u,C.ds[j]=u:=⟨_,rfl⟩
  obtain ⟨v,hv⟩ : ∃ v,D.ds[j]=v:=⟨_,rfl⟩
  have hja':j<(C.ds.map Sb.xs).length:=by rw [List.length_map];exact hja
  have hjb':j<(D.ds.map Sb.xs).length:=by rw [List.length_map];exact hjb
  have HNX:=hidden (fun (e:u.xs=v.xs)=>take_next hja' hjb' HT.out (by rw [List.getElem_map,List.getElem_map,hu,hv,e]))
  have HDF:=hidden (fun (e:u.xs≠v.xs)=>decide_eq_false (differ_at hja' hjb' (by rw [List.getElem_map,List.getElem_map,hu,hv];exact e)))
  rw [hu] at hc hok
  rw [hv] at hc2 hok2
  have c0:=hc 0 _ rfl
  have d0:=hc2 0 _ rfl
  simp only [KSb,Nat.add_zero,Nat.mul_one] at c0 d0
  clear hc hc2
  clear hu hv hja hjb hja' hjb' HT
  obtain ⟨b,hbd⟩ : ∃ b,decide (u.xs=v.xs)=b:=⟨_,rfl⟩
  have HQ:=hidden (fun a=>(requal_any u.p v.p u.n u.c v.n v.c u.xs v.xs (wr.drewN a) (Byt.keep hok (fun _ _ h=>h)) (Byt.keep hok2 (fun _ _ h=>h))).mono (R':=fun e w'=>e=.returned (.bool b)∧∃ r,w'=(wr.drewN a).drewN r) (fun e w' ⟨h1,h2⟩=>⟨by rw [h1,hbd],h2⟩))
  have HBD:=hidden hbd
  clear hok hok2 hbd
  cases b with
  | true =>
   have HN:=hidden (HNX.out (of_decide_eq_true HBD.out))
   clear HNX HDF
   go_wp2
   go_quiet ((go_at_call 69;(with_reducible exact Calls.quiet_of (HQ.out _))))
   go_wp2
   go_roundw
   case rel=>exact ⟨j+1,by omega,by go_num,HN.out,cell_below (drew_below (B:=wr.heap.size) ⟨_,rfl⟩) _ _ HF.out,cell_below (drew_below (B:=wr.heap.size) ⟨_,rfl⟩) _ _ HG.out,H1.out.below (drew_below ⟨_,rfl⟩),K1.out.below (drew_below ⟨_,rfl⟩),HBL.out.trans (drew_below ⟨_,rfl⟩)⟩
   case measure=>simp [intOf];omega
  | false =>
   have HD:=hidden (HDF.out (of_decide_eq_false HBD.out))
   clear HNX HDF
   go_wp2
   go_quiet ((go_at_call 69;(with_reducible exact Calls.quiet_of (HQ.out _))))
   go_wp2
   go_ret
   exact ⟨by rw [HS.out,HD.out];rfl,HBL.out.trans (drew_below ⟨_,rfl⟩)⟩
set_option maxHeartbeats 1600000 in
set_option maxRecDepth 100000 in
theorem krsame44 (x y:Pv) (C D:Pc) (w:World) (hx0:PvRk w x C) (hy0:PvRk w y D) (hk:x.t=44) (hl:y.t=44) :
  Calls Tryz.prog 51 #[.agg #[.int .i64 44,.slice x.pr.p x.pr.n x.pr.c,.int .i64 x.eg,.slice x.ed.p x.ed.n x.ed.c,.int .i64 x.ik,.slice x.id.p x.id.n x.id.c,.int .i64 x.am,.slice x.ad.p x.ad.n x.ad.c,.int .i64 x.np,.slice x.ns.p x.ns.n x.ns.c,.int .i64 x.nt,.slice x.nd.p x.nd.n x.nd.c,.int .i64 x.dp,.slice x.ds.p x.ds.n x.ds.c,.slice x.se.p x.se.n x.se.c,.slice x.da.p x.da.n x.da.c],.agg #[.int .i64 44,.slice y.pr.p y.pr.n y.pr.c,.int .i64 y.eg,.slice y.ed.p y.ed.n y.ed.c,.int .i64 y.ik,.slice y.id.p y.id.n y.id.c,.int .i64 y.am,.slice y.ad.p y.ad.n y.ad.c,.int .i64 y.np,.slice y.ns.p y.ns.n y.ns.c,.int .i64 y.nt,.slice y.nd.p y.nd.n y.nd.c,.int .i64 y.dp,.slice y.ds.p y.ds.n y.ds.c,.slice y.se.p y.se.n y.se.c,.slice y.da.p y.da.n y.da.c]] w fun e w'=>e=.returned (.bool (sameV x C y D))∧Below w.heap.size w w':=by
 have hx:=hx0.a44 hk
 have hy:=hy0.a44 hl
 clear hx0 hy0
 have HB:=hidden (below2 w (.cells #[.int .i64 44,.slice x.pr.p x.pr.n x.pr.c,.int .i64 x.eg,.slice x.ed.p x.ed.n x.ed.c,.int .i64 x.ik,.slice x.id.p x.id.n x.id.c,.int .i64 x.am,.slice x.ad.p x.ad.n x.ad.c,.int .i64 x.np,.slice x.ns.p x.ns.n x.ns.c,.int .i64 x.nt,.slice x.nd.p x.nd.n x.nd.c,.int .i64 x.dp,.slice x.ds.p x.ds.n x.ds.c,.slice x.se.p x.se.n x.se.c,.slice x.da.p x.da.n x.da.c] 49) (.cells #[.int .i64 44,.slice y.pr.p y.pr.n y.pr.c,.int .i64 y.eg,.slice y.ed.p y.ed.n y.ed.c,.int .i64 y.ik,.slice y.id.p y.id.n y.id.c,.int .i64 y.am,.slice y.ad.p y.ad.n y.ad.c,.int .i64 y.np,.slice y.ns.p y.ns.n y.ns.c,.int .i64 y.nt,.slice y.nd.p y.nd.n y.nd.c,.int .i64 y.dp,.slice y.ds.p y.ds.n y.ds.c,.slice y.se.p y.se.n y.se.c,.slice y.da.p y.da.n y.da.c] 49))
 have HS:Hid (sameV x C y D=decide (C.se=D.se)):=hidden (by unfold sameV;simp [hk,hl])
 have HE:=hidden (same5_any _ _ _ _ _ _ _ _ _ (hx.se.below HB.out) (hy.se.below HB.out))
 clear hx hy hk hl
 go_enter Tryz.func51,Tryz.ntmps51
 go_wp2_with (go_at_call 68;(with_reducible refine (HE.out).mono ?_);rintro e w1 ⟨rfl,hb⟩;have HB2:=hidden (HB.out.trans (hb.mono HB.out.size));clear hb)
 go_ret
 exact ⟨by rw [HS.out];rfl,HB2.out⟩
set_option maxHeartbeats 1600000 in
set_option maxRecDepth 100000 in
theorem krsame45 (x y:Pv) (C D:Pc) (w:World) (hx0:PvRk w x C) (hy0:PvRk w y D) (hk:x.t=45) (hl:y.t=45) :
  Calls Tryz.prog 51 #[.agg #[.int .i64 45,.slice x.pr.p x.pr.n x.pr.c,.int .i64 x.eg,.slice x.ed.p x.ed.n x.ed.c,.int .i64 x.ik,.slice x.id.p x.id.n x.id.c,.int .i64 x.am,.slice x.ad.p x.ad.n x.ad.c,.int .i64 x.np,.slice x.ns.p x.ns.n x.ns.c,.int .i64 x.nt,.slice x.nd.p x.nd.n x.nd.c,.int .i64 x.dp,.slice x.ds.p x.ds.n x.ds.c,.slice x.se.p x.se.n x.se.c,.slice x.da.p x.da.n x.da.c],.agg #[.int .i64 45,.slice y.pr.p y.pr.n y.pr.c,.int .i64 y.eg,.slice y.ed.p y.ed.n y.ed.c,.int .i64 y.ik,.slice y.id.p y.id.n y.id.c,.int .i64 y.am,.slice y.ad.p y.ad.n y.ad.c,.int .i64 y.np,.slice y.ns.p y.ns.n y.ns.c,.int .i64 y.nt,.slice y.nd.p y.nd.n y.nd.c,.int .i64 y.dp,.slice y.ds.p y.ds.n y.ds.c,.slice y.se.p y.se.n y.se.c,.slice y.da.p y.da.n y.da.c]] w fun e w'=>e=.returned (.bool (sameV x C y D))∧Below w.heap.size w w':=by
 have hx:=hx0.a45 hk
 have hy:=hy0.a45 hl
 clear hx0 hy0
 have HB:=hidden (below2 w (.cells #[.int .i64 45,.slice x.pr.p x.pr.n x.pr.c,.int .i64 x.eg,.slice x.ed.p x.ed.n x.ed.c,.int .i64 x.ik,.slice x.id.p x.id.n x.id.c,.int .i64 x.am,.slice x.ad.p x.ad.n x.ad.c,.int .i64 x.np,.slice x.ns.p x.ns.n x.ns.c,.int .i64 x.nt,.slice x.nd.p x.nd.n x.nd.c,.int .i64 x.dp,.slice x.ds.p x.ds.n x.ds.c,.slice x.se.p x.se.n x.se.c,.slice x.da.p x.da.n x.da.c] 49) (.cells #[.int .i64 45,.slice y.pr.p y.pr.n y.pr.c,.int .i64 y.eg,.slice y.ed.p y.ed.n y.ed.c,.int .i64 y.ik,.slice y.id.p y.id.n y.id.c,.int .i64 y.am,.slice y.ad.p y.ad.n y.ad.c,.int .i64 y.np,.slice y.ns.p y.ns.n y.ns.c,.int .i64 y.nt,.slice y.nd.p y.nd.n y.nd.c,.int .i64 y.dp,.slice y.ds.p y.ds.n y.ds.c,.slice y.se.p y.se.n y.se.c,.slice y.da.p y.da.n y.da.c] 49))
 have HS:Hid (sameV x C y D=decide (C.se=D.se)):=hidden (by unfold sameV;simp [hk,hl])
 have HE:=hidden (same5_any _ _ _ _ _ _ _ _ _ (hx.se.below HB.out) (hy.se.below HB.out))
 clear hx hy hk hl
 go_enter Tryz.func51,Tryz.ntmps51
 go_wp2_with (go_at_call 68;(with_reducible refine (HE.out).mono ?_);rintro e w1 ⟨rfl,hb⟩;have HB2:=hidden (HB.out.trans (hb.mono HB.out.size));clear hb)
 go_ret
 exact ⟨by rw [HS.out];rfl,HB2.out⟩
set_option maxHeartbeats 1600000 in
set_option maxRecDepth 100000 in
theorem krsameX (x y:Pv) (C D:Pc) (w:World) (hx0:PvRk w x C) (hy0:PvRk w y D) (t:Int) (hk:x.t=t) (hl:y.t=t) (hk33:t≠33) (hk34:t≠34) (hk35:t≠35) (hk36:t≠36) (hk39:t≠39) (hk41:t≠41) (hk42:t≠42) (hk44:t≠44) (hk45:t≠45) :
  Calls Tryz.prog 51 #[.agg #[.int .i64 t,.slice x.pr.p x.pr.n x.pr.c,.int .i64 x.eg,.slice x.ed.p x.ed.n x.ed.c,.int .i64 x.ik,.slice x.id.p x.id.n x.id.c,.int .i64 x.am,.slice x.ad.p x.ad.n x.ad.c,.int .i64 x.np,.slice x.ns.p x.ns.n x.ns.c,.int .i64 x.nt,.slice x.nd.p x.nd.n x.nd.c,.int .i64 x.dp,.slice x.ds.p x.ds.n x.ds.c,.slice x.se.p x.se.n x.se.c,.slice x.da.p x.da.n x.da.c],.agg #[.int .i64 t,.slice y.pr.p y.pr.n y.pr.c,.int .i64 y.eg,.slice y.ed.p y.ed.n y.ed.c,.int .i64 y.ik,.slice y.id.p y.id.n y.id.c,.int .i64 y.am,.slice y.ad.p y.ad.n y.ad.c,.int .i64 y.np,.slice y.ns.p y.ns.n y.ns.c,.int .i64 y.nt,.slice y.nd.p y.nd.n y.nd.c,.int .i64 y.dp,.slice y.ds.p y.ds.n y.ds.c,.slice y.se.p y.se.n y.se.c,.slice y.da.p y.da.n y.da.c]] w fun e w'=>e=.returned (.bool (sameV x C y D))∧Below w.heap.size w w':=by
 have hx:=hx0.aX (by rw [hk];exact hk33) (by rw [hk];exact hk34) (by rw [hk];exact hk35) (by rw [hk];exact hk36) (by rw [hk];exact hk39) (by rw [hk];exact hk41) (by rw [hk];exact hk42) (by rw [hk];exact hk44) (by rw [hk];exact hk45)
 have hy:=hy0.aX (by rw [hl];exact hk33) (by rw [hl];exact hk34) (by rw [hl];exact hk35) (by rw [hl];exact hk36) (by rw [hl];exact hk39) (by rw [hl];exact hk41) (by rw [hl];exact hk42) (by rw [hl];exact hk44) (by rw [hl];exact hk45)
 clear hx0 hy0
 have HB:=hidden (below2 w (.cells #[.int .i64 t,.slice x.pr.p x.pr.n x.pr.c,.int .i64 x.eg,.slice x.ed.p x.ed.n x.ed.c,.int .i64 x.ik,.slice x.id.p x.id.n x.id.c,.int .i64 x.am,.slice x.ad.p x.ad.n x.ad.c,.int .i64 x.np,.slice x.ns.p x.ns.n x.ns.c,.int .i64 x.nt,.slice x.nd.p x.nd.n x.nd.c,.int .i64 x.dp,.slice x.ds.p x.ds.n x.ds.c,.slice x.se.p x.se.n x.se.c,.slice x.da.p x.da.n x.da.c] 49) (.cells #[.int .i64 t,.slice y.pr.p y.pr.n y.pr.c,.int .i64 y.eg,.slice y.ed.p y.ed.n y.ed.c,.int .i64 y.ik,.slice y.id.p y.id.n y.id.c,.int .i64 y.am,.slice y.ad.p y.ad.n y.ad.c,.int .i64 y.np,.slice y.ns.p y.ns.n y.ns.c,.int .i64 y.nt,.slice y.nd.p y.nd.n y.nd.c,.int .i64 y.dp,.slice y.ds.p y.ds.n y.ds.c,.slice y.se.p y.se.n y.se.c,.slice y.da.p y.da.n y.da.c] 49))
 have e0:(t != t)=false:=by simp
 have k33:(t == 33)=false:=by simpa using hk33
 have k34:(t == 34)=false:=by simpa using hk34
 have k35:(t == 35)=false:=by simpa using hk35
 have k36:(t == 36)=false:=by simpa using hk36
 have k39:(t == 39)=false:=by simpa using hk39
 have k41:(t == 41)=false:=by simpa using hk41
 have k42:(t == 42)=false:=by simpa using hk42
 have k44:(t == 44)=false:=by simpa using hk44
 have k45:(t == 45)=false:=by simpa using hk45
 obtain ⟨b1,hb1⟩ : ∃ b,decide (C.da=D.da)=b:=⟨_,rfl⟩
 have Hb1:=hidden (fun W (hb:Below w.heap.size w W)=>requal_any _ _ _ _ _ _ _ _ W (hx.da.below hb) (hy.da.below hb))
 rw [hb1] at Hb1
 have HS:Hid (sameV x C y D=b1):=hidden (by rw [←hb1];unfold sameV;simp [hk,hl,hk33,hk34,hk35,hk36,hk39,hk41,hk42,hk44,hk45])
 clear hx hy hb1 hk hl hk33 hk34 hk35 hk36 hk39 hk41 hk42 hk44 hk45
 go_enter Tryz.func51,Tryz.ntmps51
 go_wp2_with (go_at_call 69;(with_reducible refine (Hb1.out _ HB.out).mono ?_);rintro e w_b1 ⟨rfl,r_b1,rfl⟩;have HB_b1:=hidden (HB.out.trans ((drew_below ⟨r_b1,rfl⟩).mono HB.out.size));clear Hb1)
 go_ret
 exact ⟨by rw [HS.out];rfl,HB_b1.out⟩
set_option maxHeartbeats 1600000 in
set_option maxRecDepth 100000 in
theorem krsame_any (x y:Pv) (C D:Pc) (w:World) (hx:PvRk w x C) (hy:PvRk w y D) :
  Calls Tryz.prog 51 #[(.agg #[.int .i64 x.t,.slice x.pr.p x.pr.n x.pr.c,.int .i64 x.eg,.slice x.ed.p x.ed.n x.ed.c,.int .i64 x.ik,.slice x.id.p x.id.n x.id.c,.int .i64 x.am,.slice x.ad.p x.ad.n x.ad.c,.int .i64 x.np,.slice x.ns.p x.ns.n x.ns.c,.int .i64 x.nt,.slice x.nd.p x.nd.n x.nd.c,.int .i64 x.dp,.slice x.ds.p x.ds.n x.ds.c,.slice x.se.p x.se.n x.se.c,.slice x.da.p x.da.n x.da.c]),(.agg #[.int .i64 y.t,.slice y.pr.p y.pr.n y.pr.c,.int .i64 y.eg,.slice y.ed.p y.ed.n y.ed.c,.int .i64 y.ik,.slice y.id.p y.id.n y.id.c,.int .i64 y.am,.slice y.ad.p y.ad.n y.ad.c,.int .i64 y.np,.slice y.ns.p y.ns.n y.ns.c,.int .i64 y.nt,.slice y.nd.p y.nd.n y.nd.c,.int .i64 y.dp,.slice y.ds.p y.ds.n y.ds.c,.slice y.se.p y.se.n y.se.c,.slice y.da.p y.da.n y.da.c])] w fun e w'=>e=.returned (.bool (sameV x C y D))∧Below w.heap.size w w':=by
 by_cases ht:x.t=y.t
 rotate_left
 ·have e0:(x.t != y.t)=true:=by simpa using ht
  have HS:Hid (sameV x C y D=false):=hidden (by unfold sameV;simp [ht])
  have HB:=hidden (below2 w (.cells #[.int .i64 x.t,.slice x.pr.p x.pr.n x.pr.c,.int .i64 x.eg,.slice x.ed.p x.ed.n x.ed.c,.int .i64 x.ik,.slice x.id.p x.id.n x.id.c,.int .i64 x.am,.slice x.ad.p x.ad.n x.ad.c,.int .i64 x.np,.slice x.ns.p x.ns.n x.ns.c,.int .i64 x.nt,.slice x.nd.p x.nd.n x.nd.c,.int .i64 x.dp,.slice x.ds.p x.ds.n x.ds.c,.slice x.se.p x.se.n x.se.c,.slice x.da.p x.da.n x.da.c] 49) (.cells #[.int .i64 y.t,.slice y.pr.p y.pr.n y.pr.c,.int .i64 y.eg,.slice y.ed.p y.ed.n y.ed.c,.int .i64 y.ik,.slice y.id.p y.id.n y.id.c,.int .i64 y.am,.slice y.ad.p y.ad.n y.ad.c,.int .i64 y.np,.slice y.ns.p y.ns.n y.ns.c,.int .i64 y.nt,.slice y.nd.p y.nd.n y.nd.c,.int .i64 y.dp,.slice y.ds.p y.ds.n y.ds.c,.slice y.se.p y.se.n y.se.c,.slice y.da.p y.da.n y.da.c] 49))
  clear hx hy ht
  go_enter Tryz.func51,Tryz.ntmps51
  go_wp2_with fail
  go_ret
  exact ⟨by rw [HS.out];rfl,HB.out⟩
 by_cases k33:x.t=33
 ·have l33:y.t=33:=ht ▸ k33
  have:=krsame33 x y C D w hx hy k33 l33
  rw [k33,l33]
  exact this
 by_cases k34:x.t=34
 ·have l34:y.t=34:=ht ▸ k34
  have:=krsame34 x y C D w hx hy k34 l34
  rw [k34,l34]
  exact this
 by_cases k35:x.t=35
 ·have l35:y.t=35:=ht ▸ k35
  have:=krsame35 x y C D w hx hy k35 l35
  rw [k35,l35]
  exact this
 by_cases k36:x.t=36
 ·have l36:y.t=36:=ht ▸ k36
  have:=krsame36 x y C D w hx hy k36 l36
  rw [k36,l36]
  exact this
 by_cases k39:x.t=39
 ·have l39:y.t=39:=ht ▸ k39
  have:=krsame39 x y C D w hx hy k39 l39
  rw [k39,l39]
  exact this
 by_cases k41:x.t=41
 ·have l41:y.t=41:=ht ▸ k41
  have:=krsame41 x y C D w hx hy k41 l41
  rw [k41,l41]
  exact this
 by_cases k42:x.t=42
 ·have l42:y.t=42:=ht ▸ k42
  have:=krsame42 x y C D w hx hy k42 l42
  rw [k42,l42]
  exact this
 by_cases k44:x.t=44
 ·have l44:y.t=44:=ht ▸ k44
  have:=krsame44 x y C D w hx hy k44 l44
  rw [k44,l44]
  exact this
 by_cases k45:x.t=45
 ·have l45:y.t=45:=ht ▸ k45
  have:=krsame45 x y C D w hx hy k45 l45
  rw [k45,l45]
  exact this
 have:=krsameX x y C D w hx hy x.t rfl ht.symm k33 k34 k35 k36 k39 k41 k42 k44 k45
 rw [←ht]
 exact this
end Go.Proofs.YtgpigjoonhghhaaGreat

namespace Go.Proofs.YtgpigjoonhghhaaGreat
open Go.RowKit
set_option linter.unusedVariables false
theorem one_len {xs:List Int} {s:Sl} {k:Nat} (h:oneS xs=some (s,k)):k≤xs.length∧(k=16∨k=40):=by
 unfold oneS at h
 split at h
 ·cases h
 split at h
 ·rename_i h1
  obtain ⟨-,rfl⟩:=Prod.mk.inj (Option.some.inj h)
  exact ⟨h1.2.2,Or.inl rfl⟩
 split at h
 ·rename_i h1
  obtain ⟨-,rfl⟩:=Prod.mk.inj (Option.some.inj h)
  exact ⟨h1.2.2,Or.inr rfl⟩
 ·cases h
theorem nAt_bd (xs:List Int) (hr : ∀ x∈xs,0≤x∧x≤255) (a k:Nat) (hk:k≤8):0≤nAt xs a k∧nAt xs a k≤18446744073709551615:=by
 have hb:=val_bd ((xs.drop a).take k) (rng_take (rng_drop hr _) _)
 have hl:((xs.drop a).take k).length≤8:=by simp;omega
 have h8:=pow256_le hl
 have e:(256:Int) ^ 8=18446744073709551616:=by decide
 rw [e] at h8
 unfold nAt
 omega
theorem nAt_two (xs:List Int) (hr : ∀ x∈xs,0≤x∧x≤255) (a k:Nat) (hk:k≤2):nAt xs a k≤65535:=by
 have hb:=val_bd ((xs.drop a).take k) (rng_take (rng_drop hr _) _)
 have hl:((xs.drop a).take k).length≤2:=by simp;omega
 have h8:=pow256_le hl
 have e:(256:Int) ^ 2=65536:=by decide
 rw [e] at h8
 unfold nAt
 omega
theorem one_fit {xs:List Int} (hr : ∀ x∈xs,0≤x∧x≤255) {s:Sl} {k:Nat} (h:oneS xs=some (s,k)):FitS s:=by
 have h0:=rng_getD hr 1
 have b:=nAt_bd xs hr
 have t:=nAt_two xs hr
 unfold oneS at h
 split at h
 ·cases h
 split at h
 ·obtain ⟨rfl,-⟩:=Prod.mk.inj (Option.some.inj h)
  have b1:=b 4 2 (by omega)
  have b2:=b 6 2 (by omega)
  have t1:=t 4 2 (by omega)
  have t2:=t 6 2 (by omega)
  exact ⟨by simp only;omega,by simp only;omega,by simp only;omega,⟨by simp,by simp,b 8 4 (by omega)⟩,⟨by simp,by simp,b 12 4 (by omega)⟩⟩
 split at h
 ·obtain ⟨rfl,-⟩:=Prod.mk.inj (Option.some.inj h)
  have b1:=b 4 2 (by omega)
  have b2:=b 6 2 (by omega)
  have t1:=t 4 2 (by omega)
  have t2:=t 6 2 (by omega)
  exact ⟨by simp only;omega,by simp only;omega,by simp only;omega,⟨by simp,b 8 8 (by omega),b 16 8 (by omega)⟩,⟨by simp,b 24 8 (by omega),b 32 8 (by omega)⟩⟩
 ·cases h
def ReadL (w:World) (r:Option (List Sl)) (e:Ending) (w':World):Prop:=Below w.heap.size w w'∧match r with
 | none=>∃ v,e=.returned (.tuple #[v,.bool false])
 | some l=>∃ v,e=.returned (.tuple #[v,.bool true])∧RowG KSl NSl w' w.heap.size v l
set_option maxHeartbeats 1600000 in
set_option maxRecDepth 100000 in
theorem sread_any (p:Option Addr) (n c:Nat) (xs:List Int) (w:World) (h:Byt w p n c xs) (N:Nat) (hN:N≤255) (r:Option (List Sl)) (hr:manyS N xs=r) :
  Calls Tryz.prog 117 #[.slice p n c,.int .i64 N] w (ReadL w r):=by
 have HX:=hidden h
 have HR:=hidden hr
 clear h hr
 go_enter Tryz.func117,Tryz.ntmps117
 go_wp2
 go_loopw [0,6,11] (fun b v i wr=>∃ (j:Nat) (l:List Sl) (p':Option Addr) (n' c':Nat) (ys:List Int),i=.int .i64 j∧j≤N∧l.length=j∧b=.slice p' n' c'∧Byt w p' n' c' ys∧(manyS (N - j) ys).map (l++·)=r∧RowG KSl NSl wr w.heap.size v l∧Below w.heap.size w wr) (fun _ _ i _=>N - (intOf i).toNat)
 case atStart=>exact ⟨0,[],p,n,c,xs,rfl,by omega,rfl,rfl,HX.out,by rw [←HR.out];simp,RowG.nil _ _ _ _,Below.refl _ _⟩
 case round =>
  obtain ⟨j,l,p',n',c',ys,rfl,hj,hlj,rfl,hby,hm,hrow,hb⟩:=hrel
  obtain ⟨po,co,rfl⟩:=hrow.form rfl
  have HLJ:=hidden hlj
  have hl255:l.length≤255:=by omega
  clear hlj
  have HY:=hidden hby
  have HRW:=hidden hrow
  have HB:=hidden hb
  have hn':=hby.le
  have hlen:=hidden hby.len
  clear HX HR hrow
  by_cases hlt:j<N
  ·have hlt':(j:Int)<N:=by omega
   rw [show N - j=(N - (j+1))+1 by omega] at hm
   obtain ⟨o,ho⟩ : ∃ o,oneS ys=o:=⟨_,rfl⟩
   have HO:=hidden (fun w (h:Byt w p' n' c' ys)=>readOne_any p' n' c' ys w h o ho)
   have HYW:=hidden (hby.below hb)
   unfold manyS at hm
   rw [ho] at hm
   cases o with
   | none =>
    have HM:=hidden hm
    clear hm ho hby hb
    go_wp2_with (first
     | (go_at_call 122;(with_reducible refine (HO.out _ HYW.out).mono ?_);rintro e w1 ⟨hb1,rfl⟩;have HB1:=hidden (HB.out.trans (hb1.mono HB.out.size));clear hb1)
     | fail)
    go_ret2
    have hM:=HM.out
    simp only [Option.map_none] at hM
    subst hM
    exact ⟨HB1.out.alloc HB1.out.size _,_,rfl⟩
   | some sk =>
    obtain ⟨s,k'⟩:=sk
    simp only at hm
    obtain ⟨hk1,hk2⟩:=one_len ho
    rw [hby.len] at hk1
    have hfit:=one_fit hby.rng ho
    obtain ⟨bb,oo,rfl,-⟩:=hby.at_ (by omega)
    have hpart:=hby.part k' n' hk1 (Nat.le_refl _)
    rw [List.take_of_length_le (by rw [hby.len];omega)] at hpart
    have hcap:=hby.cap
    have HF:=hidden hfit
    have HM:=hidden hm
    have HPA:=hidden hpart
    clear hm ho hby hb hfit hpart hk2
    have hcc:(c'=k'∧n'=k')∨c'≠k':=by omega
    rcases hcc with ⟨rfl,rfl⟩ | hcc
    all_goals
     first | (rw [if_pos rfl,Nat.sub_self] at HPA) | (rw [if_neg hcc,Option.map_some,WideShapes.add_plain] at HPA;replace HPA:Hid (Byt w (some ⟨bb,oo+k',none⟩) (n' - k') (c' - k') (List.drop k' ys)):=HPA)
     go_wp2_with (first
      | (go_at_call 122;(with_reducible refine (HO.out _ HYW.out).mono ?_);rintro e w1 ⟨hb1,rfl⟩;have HB1:=hidden ((HB.out.trans (hb1.mono HB.out.size)).alloc (HB.out.trans (hb1.mono HB.out.size)).size (.cells #[.int .i64 s.p,.int .i64 s.a,.int .i64 s.b,.int .i64 s.lo.f,.int .u64 s.lo.h,.int .u64 s.lo.l,.int .i64 s.hi.f,.int .u64 s.hi.h,.int .u64 s.hi.l] 122));have HR1:=hidden (((HRW.out.below hb1).alloc (.cells #[.int .i64 s.p,.int .i64 s.a,.int .i64 s.b,.int .i64 s.lo.f,.int .u64 s.lo.h,.int .u64 s.lo.l,.int .i64 s.hi.f,.int .u64 s.hi.h,.int .u64 s.hi.l] 122)).alloc (.cells #[.int .i64 s.p,.int .i64 s.a,.int .i64 s.b,.int .i64 s.lo.f,.int .u64 s.lo.h,.int .u64 s.lo.l,.int .i64 s.hi.f,.int .u64 s.hi.h,.int .u64 s.hi.l] 122));have HSR:Hid (SrcG KSl ((w1.alloc (.cells #[.int .i64 s.p,.int .i64 s.a,.int .i64 s.b,.int .i64 s.lo.f,.int .u64 s.lo.h,.int .u64 s.lo.l,.int .i64 s.hi.f,.int .u64 s.hi.h,.int .u64 s.hi.l] 122)).alloc (.cells #[.int .i64 s.p,.int .i64 s.a,.int .i64 s.b,.int .i64 s.lo.f,.int .u64 s.lo.h,.int .u64 s.lo.l,.int .i64 s.hi.f,.int .u64 s.hi.h,.int .u64 s.hi.l] 122)) (some ⟨w1.heap.size+1,0,none⟩) 1 [s]):=hidden (by have:=srcSl (w1.alloc (.cells #[.int .i64 s.p,.int .i64 s.a,.int .i64 s.b,.int .i64 s.lo.f,.int .u64 s.lo.h,.int .u64 s.lo.l,.int .i64 s.hi.f,.int .u64 s.hi.h,.int .u64 s.hi.l] 122)) s 122;simpa using this);clear hb1)
      | (at_builtin;go_loud (refine wpList_append_g knownSl (by simp [NSl]) _ rfl _ _ rfl w.heap.size _ l rfl HR1.out _ 1 1 [s] rfl HSR.out (fun x hx=>by rw [List.mem_singleton.1 hx];exact HF.out) (by unfold maxLen;omega) (by omega) (by have:=HB1.out.size;simp at this ⊢;omega) ?_))
      | fail)
     intro v' w4 hr4 hg4
     have HB4:=hidden ((HB1.out.alloc HB1.out.size (.cells #[.int .i64 s.p,.int .i64 s.a,.int .i64 s.b,.int .i64 s.lo.f,.int .u64 s.lo.h,.int .u64 s.lo.l,.int .i64 s.hi.f,.int .u64 s.hi.h,.int .u64 s.hi.l] 122)).grown hg4 (by have:=HB1.out.size;simp at this ⊢;omega) (fun j hj=>(HR1.out.lt j hj).1))
     have HR4:=hidden hr4
     clear hr4 hg4 HR1 HB1
     go_wp2
     go_roundw
     case rel=>exact ⟨j+1,l++[s],_,_,_,_,by go_num,by omega,by have:=HLJ.out;simp;omega,rfl,HPA.out,by have hM:=HM.out;rw [Option.map_map] at hM;rw [←hM];congr 1;funext x;simp,HR4.out,HB4.out⟩
     case measure=>simp [intOf];omega
  ·obtain rfl:j=N:=by omega
   rw [Nat.sub_self] at hm
   unfold manyS at hm
   rw [hby.len] at hm
   by_cases h0:n'=0
   ·subst h0
    simp at hm
    subst hm
    clear hby hb
    go_wp2
    go_ret2
    exact ⟨HB.out,_,rfl,HRW.out⟩
   ·have h0':((n':Int) == 0)=false:=by simp;omega
    rw [if_neg h0] at hm
    simp only [Option.map_none] at hm
    subst hm
    clear hby hb
    go_wp2
    go_ret2
    exact ⟨HB.out,_,rfl⟩
def ParsedS (w:World) (r:List Sl × Int) (e:Ending) (w':World):Prop:=∃ v,e=.returned (.tuple #[v,.int .i64 r.2])∧RowG KSl NSl w' w.heap.size v r.1∧Below w.heap.size w w'
theorem parsed_none (w w':World) (E:Int) (r:List Sl × Int) (h:([],E)=r) (hb:Below w.heap.size w w'):ParsedS w r (.returned (.tuple #[.slice none 0 0,.int .i64 E])) w':=by
 subst h
 exact ⟨_,rfl,RowG.nil _ _ _ _,hb⟩
set_option maxHeartbeats 1600000 in
set_option maxRecDepth 100000 in
theorem sparse_any (p:Option Addr) (n c:Nat) (xs:List Int) (w:World) (h:Byt w p n c xs) (r:List Sl × Int) (hr:parseS xs=r) :
  Calls Tryz.prog 111 #[.slice p n c] w (ParsedS w r):=by
 have hn:=h.le
 unfold parseS at hr
 rw [h.len] at hr
 by_cases h4:n<4
 ·rw [if_pos h4] at hr
  have HR:=hidden hr
  clear h hr
  go_enter Tryz.func111,Tryz.ntmps111
  go_wp2
  go_ret2
  exact parsed_none _ _ _ _ HR.out (Below.refl _ _)
 rw [if_neg h4] at hr
 obtain ⟨bb,oo,rfl,hcell⟩:=h.at_ (by omega)
 have c0:=hcell 0 (by omega)
 have x0:=rng_getD h.rng 0
 obtain ⟨N,hN⟩:=Int.eq_ofNat_of_zero_le x0.1
 rw [hN] at hr c0 x0
 rw [Nat.add_zero] at c0
 have hcap:=h.cap
 by_cases h0:(N:Int)=0
 ·rw [if_pos h0] at hr
  have HR:=hidden hr
  have hN0:N=0:=by omega
  subst hN0
  clear h hr hcell hN h0
  go_enter Tryz.func111,Tryz.ntmps111
  go_wp2_with (first
   | (go_at_call 116;(refine (count_any _ _).mono ?_);rintro e w' ⟨rfl,rfl⟩;rw [show cntE 0=8 from rfl])
   | fail)
  go_ret2
  exact parsed_none _ _ _ _ HR.out (Below.refl _ _)
 rw [if_neg h0] at hr
 by_cases h16:(N:Int) > 16
 ·rw [if_pos h16] at hr
  have hc10:cntE N=10:=by unfold cntE;rw [if_neg (by omega),if_pos (by omega)]
  have HR:=hidden hr
  clear h hr hcell hN h0
  go_enter Tryz.func111,Tryz.ntmps111
  go_wp2_with (first
   | (go_at_call 116;(with_reducible refine (count_any _ _).mono ?_);rintro e w' ⟨rfl,rfl⟩;rw [hc10])
   | fail)
  go_ret2
  exact parsed_none _ _ _ _ HR.out (Below.refl _ _)
 rw [if_neg h16] at hr
 have hc0:cntE N=0:=by unfold cntE;rw [if_neg (by omega),if_neg (by omega)]
 have hpart:=h.part 4 n (by omega) (Nat.le_refl _)
 rw [List.take_of_length_le (by rw [h.len];omega)] at hpart
 obtain ⟨o,ho⟩ : ∃ o,manyS N (xs.drop 4)=o:=⟨_,rfl⟩
 rw [Int.toNat_natCast,ho] at hr
 have HR:=hidden hr
 have HRD:=hidden (fun q m d (h:Byt w q m d (xs.drop 4))=>sread_any q m d _ w h N (by omega) o ho)
 have HP:=hidden hpart
 clear h hr hcell hN ho hpart
 have hcc:(c=4∧n=4)∨c≠4:=by omega
 rcases hcc with ⟨rfl,rfl⟩ | hcc
 all_goals
  first | (rw [if_pos rfl,Nat.sub_self] at HP) | (rw [if_neg hcc,Option.map_some,WideShapes.add_plain] at HP)
  cases o with
  | none =>
   go_enter Tryz.func111,Tryz.ntmps111
   go_wp2_with (first
    | (go_at_call 116;(with_reducible refine (count_any _ _).mono ?_);rintro e w' ⟨rfl,rfl⟩;rw [hc0])
    | (go_at_call 117;(with_reducible refine (HRD.out _ _ _ HP.out).mono ?_);rintro e w1 ⟨hb,v,rfl⟩;have HB1:=hidden hb;clear hb)
    | fail)
   go_ret2
   exact parsed_none _ _ _ _ HR.out HB1.out
  | some l =>
   obtain ⟨z,hz⟩ : ∃ z,errL l=z:=⟨_,rfl⟩
   have hr:=HR.out
   simp only at hr
   rw [hz] at hr
   by_cases hz0:z=0
   ·subst hz0
    rw [if_neg (by simp)] at hr
    have HR2:=hidden hr
    clear hr HR
    go_enter Tryz.func111,Tryz.ntmps111
    go_wp2_with (first
     | (go_at_call 116;(with_reducible refine (count_any _ _).mono ?_);rintro e w' ⟨rfl,rfl⟩;rw [hc0])
     | (go_at_call 117;(with_reducible refine (HRD.out _ _ _ HP.out).mono ?_);rintro e w1 ⟨hb,v,rfl,hrow⟩;have HB1:=hidden hb;have HRW:=hidden hrow;obtain ⟨q,d,rfl,hrd⟩:=hrow.rd (D:=DSlr) rfl (fun _ h=>h);have HC:=hidden (each_any q _ d l w1 hrd 0 hz);clear hb hrow hrd)
     | (go_at_call 118;(with_reducible refine (HC.out).mono ?_);rintro e w2 ⟨rfl,hb2⟩;have HRW2:=hidden (HRW.out.below hb2);have HB2:=hidden (HB1.out.trans (hb2.mono HB1.out.size));clear hb2)
     | fail)
    go_ret2
    rw [←HR2.out]
    exact ⟨_,rfl,HRW2.out,HB2.out⟩
   ·rw [if_pos hz0] at hr
    have hz':(z != 0)=true:=by simpa using hz0
    have HR2:=hidden hr
    clear hr HR hz0
    go_enter Tryz.func111,Tryz.ntmps111
    go_wp2_with (first
     | (go_at_call 116;(with_reducible refine (count_any _ _).mono ?_);rintro e w' ⟨rfl,rfl⟩;rw [hc0])
     | (go_at_call 117;(with_reducible refine (HRD.out _ _ _ HP.out).mono ?_);rintro e w1 ⟨hb,v,rfl,hrow⟩;have HB1:=hidden hb;obtain ⟨q,d,rfl,hrd⟩:=hrow.rd (D:=DSlr) rfl (fun _ h=>h);have HC:=hidden (each_any q _ d l w1 hrd z hz);clear hb hrow hrd)
     | (go_at_call 118;(with_reducible refine (HC.out).mono ?_);rintro e w2 ⟨rfl,hb2⟩;have HB2:=hidden (HB1.out.trans (hb2.mono HB1.out.size));clear hb2)
     | fail)
    go_ret2
    exact parsed_none _ _ _ _ HR2.out HB2.out
end Go.Proofs.YtgpigjoonhghhaaGreat

namespace Go.Proofs.YtgpigjoonhghhaaGreat
open Go.RowKit
set_option linter.unusedVariables false
set_option maxHeartbeats 800000 in
set_option maxRecDepth 100000 in
theorem selectors_read (p:Option Addr) (n c:Nat) (xs:List Int) (w:World) (h:Byt w p n c xs) (r:List Sl × Int) (hr:parseS xs=r) :
  Calls Tryz.prog 89 #[.slice p n c] w (ReadPv w r.2 fun w' x=>RowG KSl NSl w' w.heap.size (.slice x.se.p x.se.n x.se.c) r.1∧r.1.length=x.se.n):=by
 have HB:=hidden ((Below.refl w.heap.size w).alloc (Nat.le_refl _) (.cells #[.int .i64 0,.slice none 0 0,.int .i64 0,.slice none 0 0,.int .i64 0,.slice none 0 0,.int .i64 0,.slice none 0 0,.int .i64 0,.slice none 0 0,.int .i64 0,.slice none 0 0,.int .i64 0,.slice none 0 0,.slice none 0 0,.slice none 0 0] 49))
 have HZ:Hid (PvIn (w.alloc (.cells #[.int .i64 0,.slice none 0 0,.int .i64 0,.slice none 0 0,.int .i64 0,.slice none 0 0,.int .i64 0,.slice none 0 0,.int .i64 0,.slice none 0 0,.int .i64 0,.slice none 0 0,.int .i64 0,.slice none 0 0,.slice none 0 0,.slice none 0 0] 49)) w.heap.size zeroP):=hidden (PvIn.new w zeroP 49)
 have HP:=hidden (sparse_any p n c xs _ (h.alloc (.cells #[.int .i64 0,.slice none 0 0,.int .i64 0,.slice none 0 0,.int .i64 0,.slice none 0 0,.int .i64 0,.slice none 0 0,.int .i64 0,.slice none 0 0,.int .i64 0,.slice none 0 0,.int .i64 0,.slice none 0 0,.slice none 0 0,.slice none 0 0] 49)) r hr)
 clear h
 go_enter Tryz.func89,Tryz.ntmps89
 go_wp2_with (first
  | (go_at_call 111;(with_reducible refine (HP.out).mono ?_);rintro e w2 ⟨v2,rfl,hrow,hbc⟩;obtain ⟨q2,d2,rfl⟩:=hrow.form rfl;have HR2:=hidden hrow;have HB2:=hidden (HB.out.trans (hbc.mono HB.out.size));have HZ2:=hidden (HZ.out.below hbc);obtain ⟨z0,z1,z2,z3,z4,z5,z6,z7,z8,z9,z10,z11,z12,z13,z14,z15,zf⟩:=HZ2.out;clear hrow hbc)
  | fail)
 have hlo:=setPv_grown w2 w.heap.size ⟨0,nilV,0,nilV,0,nilV,0,nilV,0,nilV,0,nilV,0,nilV,⟨q2,r.1.length,d2⟩,nilV⟩
 have hz:=setPv_in HZ2.out ⟨0,nilV,0,nilV,0,nilV,0,nilV,0,nilV,0,nilV,0,nilV,⟨q2,r.1.length,d2⟩,nilV⟩
 have hfl:=(HR2.out.low hlo (by simp)).mono (show w.heap.size≤_ from HB.out.size)
 have HBS:=hidden (HB2.out.grown hlo HB2.out.size (fun j hj=>by cases hj;exact Nat.le_refl _))
 simp only [setPv,nilV] at hz hfl HBS
 have HZZ:=hidden hz
 have HFF:=hidden hfl
 clear hz hfl hlo
 refine ret_pv (g:=w.heap.size) rfl rfl rfl rfl HZZ.out ?_
 exact ⟨_,rfl,HBS.out,fun _=>⟨HFF.out,rfl⟩⟩
end Go.Proofs.YtgpigjoonhghhaaGreat

namespace Go.Proofs.YtgpigjoonhghhaaGreat
open Go.RowKit
set_option linter.unusedVariables false
theorem rsize_any (f:Int) (w:World) :
  Calls Tryz.prog 59 #[.int .i64 f] w fun e w'=>e=.returned (.int .i64 (sizeA f))∧w=w':=by
 by_cases h4:f=4
 ·subst h4
  go_enter Tryz.func59,Tryz.ntmps59
  go_wp2
  go_ret
  exact ⟨rfl,rfl⟩
 ·have h4':(f == 4)=false:=by simpa using h4
  obtain ⟨z,hz⟩ : ∃ z:Int,((sizeA f:Nat):Int)=z:=⟨_,rfl⟩
  have e:z=16:=by rw [←hz];unfold sizeA;rw [if_neg h4];rfl
  rw [hz]
  subst e
  clear hz h4
  go_enter Tryz.func59,Tryz.ntmps59
  go_wp2
  go_ret
  exact ⟨rfl,rfl⟩
theorem rput_b (p:Option Addr) (n c:Nat) (xs:List Int) (w:World) (h:Byt w p n c xs) (hb:n≤1048576) (v:Int) (hv:0≤v∧v≤18446744073709551615) (k:Nat) (h1:1≤k) (h8:k≤8) (K:Int) (hK:K=k) :
  Calls Tryz.prog 20 #[.slice p n c,.int .u64 v,.int .i64 K] w (GotB w (xs++be k v)):=by
 subst hK
 have hl:(xs++be k v).length=n+k:=by rw [List.length_append,be_len,h.len]
 refine (rput_yes p n c xs w h (by omega) v hv k h1 h8).mono ?_
 rintro e w' ⟨u,rfl,hown,hbel⟩
 obtain ⟨q,d,rfl,hby⟩:=hown.bytN rfl hl (rng_append h.rng (be_rng _ _))
 exact ⟨q,_,d,rfl,hl,hown,hby,hbel⟩
set_option maxHeartbeats 800000 in
theorem rpad_any (p:Option Addr) (n c:Nat) (xs:List Int) (w:World) (h:Byt w p n c xs) (hb:n≤1000000) (x:Ad) (fit:FitA x) :
  Calls Tryz.prog 60 #[.slice p n c,(.agg #[.int .i64 x.f,.int .u64 x.h,.int .u64 x.l])] w (GotB w (xs++encA x)):=by
 have HX:=hidden h
 have hlen:=hidden h.len
 have HA:=hidden (AdIn.new w x 120)
 have HB:=hidden ((Below.refl w.heap.size w).alloc (Nat.le_refl _) (.cells #[.int .i64 x.f,.int .u64 x.h,.int .u64 x.l] 120))
 have hh:=fit.h
 have hl:=fit.l
 clear h
 by_cases h4:x.f=4
 ·have h4':(x.f == 4)=true:=by simpa using h4
  have HE:=hidden (show encA x=be 4 x.l by unfold encA;rw [if_pos h4])
  clear h4
  go_enter Tryz.func60,Tryz.ntmps60
  go_wp2_with (first
   | (go_at_call 20;(with_reducible refine (rput_b p n c xs _ (HX.out.alloc _) (by omega) x.l hl 4 (by omega) (by omega) 4 rfl).mono ?_);rintro e w1 hgot;have HG:=hidden (hgot.base HB.out);rw [←HE.out] at HG;obtain ⟨q,m,d,rfl,-⟩:=hgot)
   | fail)
  go_ret
  obtain ⟨q',m',d',he,k2⟩:=HG.out
  cases he
  exact ⟨_,_,_,rfl,k2⟩
 ·have h4':(x.f == 4)=false:=by simpa using h4
  have HE:=hidden (show encA x=be 8 x.h++be 8 x.l by unfold encA;rw [if_neg h4])
  clear h4
  go_enter Tryz.func60,Tryz.ntmps60
  go_upto_region 3 with fail
  generalize hw0:w.alloc (.cells #[.int .i64 x.f,.int .u64 x.h,.int .u64 x.l] 120)=w0 at *
  have HX0:=hidden (HX.out.below (w':=w0.drew) (HB.out.trans (drew_below ⟨1,rfl⟩)))
  have HB0:=hidden (HB.out.trans (drew_below (B:=w.heap.size) (w:=w0) (w':=w0.drew) ⟨1,rfl⟩))
  have HA0:=hidden (HA.out.below (w':=w0.drew) (drew_below ⟨1,rfl⟩))
  obtain ⟨-,a1,a2,-⟩:=HA.out
  go_region_held3 (fun w'=>w'.cell? ⟨w.heap.size,1,none⟩=some (.int .u64 x.h)∧w'.cell? ⟨w.heap.size,2,none⟩=some (.int .u64 x.l)) (first | exact ⟨HA0.out.c1,HA0.out.c2⟩ | exact ⟨(HA0.out.below hb1).c1,(HA0.out.below hb1).c2⟩ | exact ⟨((HA0.out.below hb1).below hb2).c1,((HA0.out.below hb1).below hb2).c2⟩ | go_keep)
   (first
   | (go_at_call 20;(with_reducible refine (rput_b p n c xs _ HX0.out (by omega) x.h hh 8 (by omega) (by omega) 8 rfl).mono ?_);rintro e w1 ⟨q1,m1,d1,rfl,hm1,-,hy1,hb1⟩;obtain rfl:m1=n+8:=(by rw [←hm1,List.length_append,be_len,hlen.out]);have HY1:=hidden hy1;have HB1:=hidden (HB0.out.trans (hb1.mono HB0.out.size)))
   | (go_at_call 20;(with_reducible refine (rput_b q1 (n+8) d1 _ _ HY1.out (by omega) x.l hl 8 (by omega) (by omega) 8 rfl).mono ?_);rintro e w2 hgot;have HG:=hidden (hgot.base HB1.out);rw [List.append_assoc,←HE.out] at HG;obtain ⟨q2,m2,d2,rfl,-,-,-,hb2⟩:=hgot)
   | fail)
  all_goals go_wp2_with fail
  all_goals go_ret
  all_goals
   obtain ⟨q',m',d',he,k2⟩:=HG.out
   cases he
   exact ⟨_,_,_,rfl,k2⟩
end Go.Proofs.YtgpigjoonhghhaaGreat

namespace Go.Proofs.YtgpigjoonhghhaaGreat
open Go.RowKit
set_option linter.unusedVariables false
theorem nAt_drop (xs:List Int) (a b k:Nat):nAt (xs.drop a) b k=nAt xs (a+b) k:=by
 unfold nAt
 rw [List.drop_drop]
theorem getD_drop5 (xs:List Int) (a b:Nat):(xs.drop a).getD b 0=xs.getD (a+b) 0:=by
 simp [List.getD_eq_getElem?_getD,List.getElem?_drop]
def slAt (xs:List Int) (a:Nat) (six:Bool):Sl :=
 if six then ⟨xs.getD (a+1) 0,nAt xs (a+4) 2,nAt xs (a+6) 2,⟨6,nAt xs (a+8) 8,nAt xs (a+16) 8⟩,⟨6,nAt xs (a+24) 8,nAt xs (a+32) 8⟩⟩
 else ⟨xs.getD (a+1) 0,nAt xs (a+4) 2,nAt xs (a+6) 2,⟨4,0,nAt xs (a+8) 4⟩,⟨4,0,nAt xs (a+12) 4⟩⟩
theorem oneS_at (xs:List Int) (a:Nat):oneS (xs.drop a) =
  if xs.length - a<8 then none
  else if xs.getD a 0=7∧nAt xs (a+2) 2=16∧16≤xs.length - a then some (slAt xs a false,16)
  else if xs.getD a 0=8∧nAt xs (a+2) 2=40∧40≤xs.length - a then some (slAt xs a true,40)
  else none:=by
 unfold oneS slAt
 simp only [List.length_drop,nAt_drop,getD_drop5,Nat.add_zero,if_true]
 rfl
theorem oneS_cases (xs:List Int) (a:Nat) (ha:a≤xs.length) (o:Option (Sl × Nat)) (ho:oneS (xs.drop a)=o) :
  (xs.length<a+8∧o=none) ∨
  (a+8≤xs.length∧xs.getD a 0≠7∧xs.getD a 0≠8∧o=none) ∨
  (a+8≤xs.length∧xs.getD a 0=7∧nAt xs (a+2) 2≠16∧o=none) ∨
  (a+8≤xs.length∧xs.getD a 0=7∧nAt xs (a+2) 2=16∧xs.length<a+16∧o=none) ∨
  (xs.getD a 0=7∧nAt xs (a+2) 2=16∧a+16≤xs.length∧o=some (slAt xs a false,16)) ∨
  (a+8≤xs.length∧xs.getD a 0=8∧nAt xs (a+2) 2≠40∧o=none) ∨
  (a+8≤xs.length∧xs.getD a 0=8∧nAt xs (a+2) 2=40∧xs.length<a+40∧o=none) ∨
  (xs.getD a 0=8∧nAt xs (a+2) 2=40∧a+40≤xs.length∧o=some (slAt xs a true,40)):=by
 rw [oneS_at] at ho
 by_cases h8:xs.length - a<8
 ·rw [if_pos h8] at ho
  exact Or.inl ⟨by omega,ho.symm⟩
 rw [if_neg h8] at ho
 by_cases h7:xs.getD a 0=7
 ·have hn8:¬ xs.getD a 0=8:=by omega
  by_cases h2:nAt xs (a+2) 2=16
  ·by_cases h3:16≤xs.length - a
   ·rw [if_pos ⟨h7,h2,h3⟩] at ho
    exact Or.inr (Or.inr (Or.inr (Or.inr (Or.inl ⟨h7,h2,by omega,ho.symm⟩))))
   ·rw [if_neg (fun e=>h3 e.2.2),if_neg (fun e=>hn8 e.1)] at ho
    exact Or.inr (Or.inr (Or.inr (Or.inl ⟨by omega,h7,h2,by omega,ho.symm⟩)))
  ·rw [if_neg (fun e=>h2 e.2.1),if_neg (fun e=>hn8 e.1)] at ho
   exact Or.inr (Or.inr (Or.inl ⟨by omega,h7,h2,ho.symm⟩))
 rw [if_neg (fun e=>h7 e.1)] at ho
 by_cases h9:xs.getD a 0=8
 ·by_cases h2:nAt xs (a+2) 2=40
  ·by_cases h3:40≤xs.length - a
   ·rw [if_pos ⟨h9,h2,h3⟩] at ho
    exact Or.inr (Or.inr (Or.inr (Or.inr (Or.inr (Or.inr (Or.inr ⟨h9,h2,by omega,ho.symm⟩))))))
   ·rw [if_neg (fun e=>h3 e.2.2)] at ho
    exact Or.inr (Or.inr (Or.inr (Or.inr (Or.inr (Or.inr (Or.inl ⟨by omega,h9,h2,by omega,ho.symm⟩))))))
  ·rw [if_neg (fun e=>h2 e.2.1)] at ho
   exact Or.inr (Or.inr (Or.inr (Or.inr (Or.inr (Or.inl ⟨by omega,h9,h2,ho.symm⟩)))))
 rw [if_neg (fun e=>h9 e.1)] at ho
 exact Or.inr (Or.inl ⟨by omega,h7,h9,ho.symm⟩)
end Go.Proofs.YtgpigjoonhghhaaGreat
