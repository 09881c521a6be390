/-
 Package payload's Parse of the type 35, given what the reader returns.
 Package payload's Parse of the type 36, given what the reader returns.
-/
import Derived.Test.YtgpigjoonhghhaaGreatQZ15
namespace Go.Proofs.YtgpigjoonhghhaaGreat
open Go.RowKit
set_option linter.unusedVariables false
theorem reader_35 (p:Option Addr) (n c:Nat) (w:World) :
  Calls Tryz.prog 66 #[.slice p n c,.int .i64 35] w fun e w'=>e=.returned (.func (.func 84) #[.slice p n c] #[])∧w=w':=by
 go_enter Tryz.func66,Tryz.ntmps66
 go_wp2
 go_ret
 exact ⟨rfl,rfl⟩
set_option maxHeartbeats 1600000 in
set_option maxRecDepth 100000 in
theorem pparse_35 (p:Option Addr) (n c:Nat) (xs:List Int) (cr:Bool) (E:Int) (G:Gd) (w:World) (h:Byt w p n c xs) (HRD : ∀ w,Byt w p n c xs→Calls Tryz.prog 84 #[.slice p n c] w (ReadPv w E (fun w' x=>G.ok w.heap.size w' x))) :
  Calls Tryz.prog 50 #[.agg #[.int .i64 35,.bool cr,.slice p n c]] w (ParsedV w 35 E G):=by
 have HX:=hidden ((h.alloc (.cells #[.int .i64 35,.bool cr,.slice p n c] 51)).alloc (.cells #[.int .i64 0,.slice none 0 0,.int .i64 0,.slice none 0 0,.int .i64 0,.slice none 0 0,.int .i64 0,.slice none 0 0,.int .i64 0,.slice none 0 0,.int .i64 0,.slice none 0 0,.int .i64 0,.slice none 0 0,.slice none 0 0,.slice none 0 0] 49))
 have HB:=hidden (((Below.refl w.heap.size w).alloc (Nat.le_refl _) (.cells #[.int .i64 35,.bool cr,.slice p n c] 51)).alloc (by simp) (.cells #[.int .i64 0,.slice none 0 0,.int .i64 0,.slice none 0 0,.int .i64 0,.slice none 0 0,.int .i64 0,.slice none 0 0,.int .i64 0,.slice none 0 0,.int .i64 0,.slice none 0 0,.int .i64 0,.slice none 0 0,.slice none 0 0,.slice none 0 0] 49))
 have HZ:Hid (PvIn ((w.alloc (.cells #[.int .i64 35,.bool cr,.slice p n c] 51)).alloc (.cells #[.int .i64 0,.slice none 0 0,.int .i64 0,.slice none 0 0,.int .i64 0,.slice none 0 0,.int .i64 0,.slice none 0 0,.int .i64 0,.slice none 0 0,.int .i64 0,.slice none 0 0,.int .i64 0,.slice none 0 0,.slice none 0 0,.slice none 0 0] 49)) (w.heap.size+1) zeroP):=hidden (by
  have:=PvIn.new (w.alloc (.cells #[.int .i64 35,.bool cr,.slice p n c] 51)) zeroP 49
  simpa [zeroP,nilV] using this)
 have HW0:=hidden (show ((w.alloc (.cells #[.int .i64 35,.bool cr,.slice p n c] 51)).alloc (.cells #[.int .i64 0,.slice none 0 0,.int .i64 0,.slice none 0 0,.int .i64 0,.slice none 0 0,.int .i64 0,.slice none 0 0,.int .i64 0,.slice none 0 0,.int .i64 0,.slice none 0 0,.int .i64 0,.slice none 0 0,.slice none 0 0,.slice none 0 0] 49)).cell? ⟨w.heap.size,0,none⟩=some (.int .i64 35) by go_simp)
 have HSZ:=hidden (show ((w.alloc (.cells #[.int .i64 35,.bool cr,.slice p n c] 51)).alloc (.cells #[.int .i64 0,.slice none 0 0,.int .i64 0,.slice none 0 0,.int .i64 0,.slice none 0 0,.int .i64 0,.slice none 0 0,.int .i64 0,.slice none 0 0,.int .i64 0,.slice none 0 0,.int .i64 0,.slice none 0 0,.slice none 0 0,.slice none 0 0] 49)).heap.size=w.heap.size+1+1 by simp)
 have HR:=hidden HRD
 clear h HRD
 go_enter Tryz.func50,Tryz.ntmps50
 go_upto_region 3 with (first
  | (go_at_call 66;(with_reducible refine (reader_35 _ _ _ _).mono ?_);rintro e w' ⟨rfl,rfl⟩)
  | (go_at_call 84;(with_reducible refine (HR.out _ HX.out).mono ?_);rintro e w2 ⟨x,rfl,hb2,hgood⟩;have HBA:=hidden (HB.out.trans (hb2.mono HB.out.size));have HZA:=hidden (HZ.out.below hb2);have HGO:=hidden hgood;have HDA:=hidden (cell_below hb2 _ _ HW0.out);have d0:=cell_below ((Below.refl _ w2).alloc (Nat.le_refl _) (.cells #[.int .i64 x.t,.slice x.pr.p x.pr.n x.pr.c,.int .i64 x.eg,.slice x.ed.p x.ed.n x.ed.c,.int .i64 x.ik,.slice x.id.p x.id.n x.id.c,.int .i64 x.am,.slice x.ad.p x.ad.n x.ad.c,.int .i64 x.np,.slice x.ns.p x.ns.n x.ns.c,.int .i64 x.nt,.slice x.nd.p x.nd.n x.nd.c,.int .i64 x.dp,.slice x.ds.p x.ds.n x.ds.c,.slice x.se.p x.se.n x.se.c,.slice x.da.p x.da.n x.da.c] 49)) _ _ HDA.out;have HSB:=hidden hb2.size;clear hb2 hgood)
  | fail)
 have hsb:=HSB.out
 rw [HSZ.out] at hsb
 have hne1:¬ w2.heap.size=w.heap.size+1:=by omega
 have hne2:¬ w.heap.size+1=w2.heap.size:=by omega
 by_cases hE:E=0
 ·subst hE
  have hk3:=PvIn.new w2 { x with t:=35 } 49
  have hz3:=HZA.out.alloc (.cells #[.int .i64 35,.slice x.pr.p x.pr.n x.pr.c,.int .i64 x.eg,.slice x.ed.p x.ed.n x.ed.c,.int .i64 x.ik,.slice x.id.p x.id.n x.id.c,.int .i64 x.am,.slice x.ad.p x.ad.n x.ad.c,.int .i64 x.np,.slice x.ns.p x.ns.n x.ns.c,.int .i64 x.nt,.slice x.nd.p x.nd.n x.nd.c,.int .i64 x.dp,.slice x.ds.p x.ds.n x.ds.c,.slice x.se.p x.se.n x.se.c,.slice x.da.p x.da.n x.da.c] 49)
  have hb3:=HBA.out.alloc HBA.out.size (.cells #[.int .i64 35,.slice x.pr.p x.pr.n x.pr.c,.int .i64 x.eg,.slice x.ed.p x.ed.n x.ed.c,.int .i64 x.ik,.slice x.id.p x.id.n x.id.c,.int .i64 x.am,.slice x.ad.p x.ad.n x.ad.c,.int .i64 x.np,.slice x.ns.p x.ns.n x.ns.c,.int .i64 x.nt,.slice x.nd.p x.nd.n x.nd.c,.int .i64 x.dp,.slice x.ds.p x.ds.n x.ds.c,.slice x.se.p x.se.n x.se.c,.slice x.da.p x.da.n x.da.c] 49)
  have hg3:=G.keep (HGO.out rfl) (fun a v ha hc=>cell_below ((Below.refl _ w2).alloc (Nat.le_refl _) (.cells #[.int .i64 35,.slice x.pr.p x.pr.n x.pr.c,.int .i64 x.eg,.slice x.ed.p x.ed.n x.ed.c,.int .i64 x.ik,.slice x.id.p x.id.n x.id.c,.int .i64 x.am,.slice x.ad.p x.ad.n x.ad.c,.int .i64 x.np,.slice x.ns.p x.ns.n x.ns.c,.int .i64 x.nt,.slice x.nd.p x.nd.n x.nd.c,.int .i64 x.dp,.slice x.ds.p x.ds.n x.ds.c,.slice x.se.p x.se.n x.se.c,.slice x.da.p x.da.n x.da.c] 49)) _ _ hc)
  simp only at hk3 hz3 hb3 hg3
  have HK3:=hidden hk3
  have HZ3:=hidden hz3
  have HB3:=hidden hb3
  have HG3:=hidden hg3
  clear hk3 hz3 hb3 hg3 HGO HZA HBA
  go_upto_region 6 with fail
  clear d0
  generalize hw3:w2.alloc (.cells #[.int .i64 35,.slice x.pr.p x.pr.n x.pr.c,.int .i64 x.eg,.slice x.ed.p x.ed.n x.ed.c,.int .i64 x.ik,.slice x.id.p x.id.n x.id.c,.int .i64 x.am,.slice x.ad.p x.ad.n x.ad.c,.int .i64 x.np,.slice x.ns.p x.ns.n x.ns.c,.int .i64 x.nt,.slice x.nd.p x.nd.n x.nd.c,.int .i64 x.dp,.slice x.ds.p x.ds.n x.ds.c,.slice x.se.p x.se.n x.se.c,.slice x.da.p x.da.n x.da.c] 49)=w3 at *
  generalize w2.heap.size=g5 at *
  clear hw3
  obtain ⟨k0,k1,k2,k3,k4,k5,k6,k7,k8,k9,k10,k11,k12,k13,k14,k15,kfr⟩:=HK3.out
  obtain ⟨y0,y1,y2,y3,y4,y5,y6,y7,y8,y9,y10,y11,y12,y13,y14,y15,z0,z1,z2,z3,z4,z5,z6,z7,z8,z9,z10,z11,z12,z13,z14,z15,zf⟩:=HZ3.out.any
  have hz:=stored_pv HZ3.out HB3.out (by omega) { x with t:=35 }
  have hgd:=(G.ty 35 (G.keep HG3.out (fun a v ha hc=>(setPv_grown w3 (w.heap.size+1) { x with t:=35 }).cell hc (by rw [HSZ.out] at ha;simp;omega))))
  simp only [setPv] at hz hgd
  have HZZ:=hidden hz
  have HGG:=hidden (G.mono hgd (by rw [HSZ.out];omega:w.heap.size≤_))
  clear hz hgd
  go_wp2
  exact ret_pv (g:=w.heap.size+1) rfl rfl rfl rfl HZZ.out.1 ⟨_,rfl,HZZ.out.2,Or.inl ⟨rfl,rfl,HGG.out⟩⟩
 ·have hE':(E != 0)=true:=by simpa using hE
  have HE:=hidden hE
  clear hE HGO
  have HZ2:=hidden (HZA.out.alloc (.cells #[.int .i64 x.t,.slice x.pr.p x.pr.n x.pr.c,.int .i64 x.eg,.slice x.ed.p x.ed.n x.ed.c,.int .i64 x.ik,.slice x.id.p x.id.n x.id.c,.int .i64 x.am,.slice x.ad.p x.ad.n x.ad.c,.int .i64 x.np,.slice x.ns.p x.ns.n x.ns.c,.int .i64 x.nt,.slice x.nd.p x.nd.n x.nd.c,.int .i64 x.dp,.slice x.ds.p x.ds.n x.ds.c,.slice x.se.p x.se.n x.se.c,.slice x.da.p x.da.n x.da.c] 49))
  have HB2:=hidden (HBA.out.alloc HBA.out.size (.cells #[.int .i64 x.t,.slice x.pr.p x.pr.n x.pr.c,.int .i64 x.eg,.slice x.ed.p x.ed.n x.ed.c,.int .i64 x.ik,.slice x.id.p x.id.n x.id.c,.int .i64 x.am,.slice x.ad.p x.ad.n x.ad.c,.int .i64 x.np,.slice x.ns.p x.ns.n x.ns.c,.int .i64 x.nt,.slice x.nd.p x.nd.n x.nd.c,.int .i64 x.dp,.slice x.ds.p x.ds.n x.ds.c,.slice x.se.p x.se.n x.se.c,.slice x.da.p x.da.n x.da.c] 49))
  clear HZA HBA
  generalize hw3:w2.alloc (.cells #[.int .i64 x.t,.slice x.pr.p x.pr.n x.pr.c,.int .i64 x.eg,.slice x.ed.p x.ed.n x.ed.c,.int .i64 x.ik,.slice x.id.p x.id.n x.id.c,.int .i64 x.am,.slice x.ad.p x.ad.n x.ad.c,.int .i64 x.np,.slice x.ns.p x.ns.n x.ns.c,.int .i64 x.nt,.slice x.nd.p x.nd.n x.nd.c,.int .i64 x.dp,.slice x.ds.p x.ds.n x.ds.c,.slice x.se.p x.se.n x.se.c,.slice x.da.p x.da.n x.da.c] 49)=w3 at *
  obtain ⟨y0,y1,y2,y3,y4,y5,y6,y7,y8,y9,y10,y11,y12,y13,y14,y15,z0,z1,z2,z3,z4,z5,z6,z7,z8,z9,z10,z11,z12,z13,z14,z15,zf⟩:=HZ2.out.any
  have hz:=stored_pv HZ2.out HB2.out (by omega) zeroP
  simp only [setPv,zeroP,nilV] at hz
  have HZZ:=hidden hz
  clear hz hw3
  go_wp2
  exact ret_pv (g:=w.heap.size+1) rfl rfl rfl rfl HZZ.out.1 ⟨zeroP,rfl,HZZ.out.2,Or.inr ⟨HE.out,rfl⟩⟩
end Go.Proofs.YtgpigjoonhghhaaGreat

namespace Go.Proofs.YtgpigjoonhghhaaGreat
open Go.RowKit
set_option linter.unusedVariables false
theorem reader_36 (p:Option Addr) (n c:Nat) (w:World) :
  Calls Tryz.prog 66 #[.slice p n c,.int .i64 36] w fun e w'=>e=.returned (.func (.func 84) #[.slice p n c] #[])∧w=w':=by
 go_enter Tryz.func66,Tryz.ntmps66
 go_wp2
 go_ret
 exact ⟨rfl,rfl⟩
set_option maxHeartbeats 1600000 in
set_option maxRecDepth 100000 in
theorem pparse_36 (p:Option Addr) (n c:Nat) (xs:List Int) (cr:Bool) (E:Int) (G:Gd) (w:World) (h:Byt w p n c xs) (HRD : ∀ w,Byt w p n c xs→Calls Tryz.prog 84 #[.slice p n c] w (ReadPv w E (fun w' x=>G.ok w.heap.size w' x))) :
  Calls Tryz.prog 50 #[.agg #[.int .i64 36,.bool cr,.slice p n c]] w (ParsedV w 36 E G):=by
 have HX:=hidden ((h.alloc (.cells #[.int .i64 36,.bool cr,.slice p n c] 51)).alloc (.cells #[.int .i64 0,.slice none 0 0,.int .i64 0,.slice none 0 0,.int .i64 0,.slice none 0 0,.int .i64 0,.slice none 0 0,.int .i64 0,.slice none 0 0,.int .i64 0,.slice none 0 0,.int .i64 0,.slice none 0 0,.slice none 0 0,.slice none 0 0] 49))
 have HB:=hidden (((Below.refl w.heap.size w).alloc (Nat.le_refl _) (.cells #[.int .i64 36,.bool cr,.slice p n c] 51)).alloc (by simp) (.cells #[.int .i64 0,.slice none 0 0,.int .i64 0,.slice none 0 0,.int .i64 0,.slice none 0 0,.int .i64 0,.slice none 0 0,.int .i64 0,.slice none 0 0,.int .i64 0,.slice none 0 0,.int .i64 0,.slice none 0 0,.slice none 0 0,.slice none 0 0] 49))
 have HZ:Hid (PvIn ((w.alloc (.cells #[.int .i64 36,.bool cr,.slice p n c] 51)).alloc (.cells #[.int .i64 0,.slice none 0 0,.int .i64 0,.slice none 0 0,.int .i64 0,.slice none 0 0,.int .i64 0,.slice none 0 0,.int .i64 0,.slice none 0 0,.int .i64 0,.slice none 0 0,.int .i64 0,.slice none 0 0,.slice none 0 0,.slice none 0 0] 49)) (w.heap.size+1) zeroP):=hidden (by
  have:=PvIn.new (w.alloc (.cells #[.int .i64 36,.bool cr,.slice p n c] 51)) zeroP 49
  simpa [zeroP,nilV] using this)
 have HW0:=hidden (show ((w.alloc (.cells #[.int .i64 36,.bool cr,.slice p n c] 51)).alloc (.cells #[.int .i64 0,.slice none 0 0,.int .i64 0,.slice none 0 0,.int .i64 0,.slice none 0 0,.int .i64 0,.slice none 0 0,.int .i64 0,.slice none 0 0,.int .i64 0,.slice none 0 0,.int .i64 0,.slice none 0 0,.slice none 0 0,.slice none 0 0] 49)).cell? ⟨w.heap.size,0,none⟩=some (.int .i64 36) by go_simp)
 have HSZ:=hidden (show ((w.alloc (.cells #[.int .i64 36,.bool cr,.slice p n c] 51)).alloc (.cells #[.int .i64 0,.slice none 0 0,.int .i64 0,.slice none 0 0,.int .i64 0,.slice none 0 0,.int .i64 0,.slice none 0 0,.int .i64 0,.slice none 0 0,.int .i64 0,.slice none 0 0,.int .i64 0,.slice none 0 0,.slice none 0 0,.slice none 0 0] 49)).heap.size=w.heap.size+1+1 by simp)
 have HR:=hidden HRD
 clear h HRD
 go_enter Tryz.func50,Tryz.ntmps50
 go_upto_region 3 with (first
  | (go_at_call 66;(with_reducible refine (reader_36 _ _ _ _).mono ?_);rintro e w' ⟨rfl,rfl⟩)
  | (go_at_call 84;(with_reducible refine (HR.out _ HX.out).mono ?_);rintro e w2 ⟨x,rfl,hb2,hgood⟩;have HBA:=hidden (HB.out.trans (hb2.mono HB.out.size));have HZA:=hidden (HZ.out.below hb2);have HGO:=hidden hgood;have HDA:=hidden (cell_below hb2 _ _ HW0.out);have d0:=cell_below ((Below.refl _ w2).alloc (Nat.le_refl _) (.cells #[.int .i64 x.t,.slice x.pr.p x.pr.n x.pr.c,.int .i64 x.eg,.slice x.ed.p x.ed.n x.ed.c,.int .i64 x.ik,.slice x.id.p x.id.n x.id.c,.int .i64 x.am,.slice x.ad.p x.ad.n x.ad.c,.int .i64 x.np,.slice x.ns.p x.ns.n x.ns.c,.int .i64 x.nt,.slice x.nd.p x.nd.n x.nd.c,.int .i64 x.dp,.slice x.ds.p x.ds.n x.ds.c,.slice x.se.p x.se.n x.se.c,.slice x.da.p x.da.n x.da.c] 49)) _ _ HDA.out;have HSB:=hidden hb2.size;clear hb2 hgood)
  | fail)
 have hsb:=HSB.out
 rw [HSZ.out] at hsb
 have hne1:¬ w2.heap.size=w.heap.size+1:=by omega
 have hne2:¬ w.heap.size+1=w2.heap.size:=by omega
 by_cases hE:E=0
 ·subst hE
  have hk3:=PvIn.new w2 { x with t:=36 } 49
  have hz3:=HZA.out.alloc (.cells #[.int .i64 36,.slice x.pr.p x.pr.n x.pr.c,.int .i64 x.eg,.slice x.ed.p x.ed.n x.ed.c,.int .i64 x.ik,.slice x.id.p x.id.n x.id.c,.int .i64 x.am,.slice x.ad.p x.ad.n x.ad.c,.int .i64 x.np,.slice x.ns.p x.ns.n x.ns.c,.int .i64 x.nt,.slice x.nd.p x.nd.n x.nd.c,.int .i64 x.dp,.slice x.ds.p x.ds.n x.ds.c,.slice x.se.p x.se.n x.se.c,.slice x.da.p x.da.n x.da.c] 49)
  have hb3:=HBA.out.alloc HBA.out.size (.cells #[.int .i64 36,.slice x.pr.p x.pr.n x.pr.c,.int .i64 x.eg,.slice x.ed.p x.ed.n x.ed.c,.int .i64 x.ik,.slice x.id.p x.id.n x.id.c,.int .i64 x.am,.slice x.ad.p x.ad.n x.ad.c,.int .i64 x.np,.slice x.ns.p x.ns.n x.ns.c,.int .i64 x.nt,.slice x.nd.p x.nd.n x.nd.c,.int .i64 x.dp,.slice x.ds.p x.ds.n x.ds.c,.slice x.se.p x.se.n x.se.c,.slice x.da.p x.da.n x.da.c] 49)
  have hg3:=G.keep (HGO.out rfl) (fun a v ha hc=>cell_below ((Below.refl _ w2).alloc (Nat.le_refl _) (.cells #[.int .i64 36,.slice x.pr.p x.pr.n x.pr.c,.int .i64 x.eg,.slice x.ed.p x.ed.n x.ed.c,.int .i64 x.ik,.slice x.id.p x.id.n x.id.c,.int .i64 x.am,.slice x.ad.p x.ad.n x.ad.c,.int .i64 x.np,.slice x.ns.p x.ns.n x.ns.c,.int .i64 x.nt,.slice x.nd.p x.nd.n x.nd.c,.int .i64 x.dp,.slice x.ds.p x.ds.n x.ds.c,.slice x.se.p x.se.n x.se.c,.slice x.da.p x.da.n x.da.c] 49)) _ _ hc)
  simp only at hk3 hz3 hb3 hg3
  have HK3:=hidden hk3
  have HZ3:=hidden hz3
  have HB3:=hidden hb3
  have HG3:=hidden hg3
  clear hk3 hz3 hb3 hg3 HGO HZA HBA
  go_upto_region 6 with fail
  clear d0
  generalize hw3:w2.alloc (.cells #[.int .i64 36,.slice x.pr.p x.pr.n x.pr.c,.int .i64 x.eg,.slice x.ed.p x.ed.n x.ed.c,.int .i64 x.ik,.slice x.id.p x.id.n x.id.c,.int .i64 x.am,.slice x.ad.p x.ad.n x.ad.c,.int .i64 x.np,.slice x.ns.p x.ns.n x.ns.c,.int .i64 x.nt,.slice x.nd.p x.nd.n x.nd.c,.int .i64 x.dp,.slice x.ds.p x.ds.n x.ds.c,.slice x.se.p x.se.n x.se.c,.slice x.da.p x.da.n x.da.c] 49)=w3 at *
  generalize w2.heap.size=g5 at *
  clear hw3
  obtain ⟨k0,k1,k2,k3,k4,k5,k6,k7,k8,k9,k10,k11,k12,k13,k14,k15,kfr⟩:=HK3.out
  obtain ⟨y0,y1,y2,y3,y4,y5,y6,y7,y8,y9,y10,y11,y12,y13,y14,y15,z0,z1,z2,z3,z4,z5,z6,z7,z8,z9,z10,z11,z12,z13,z14,z15,zf⟩:=HZ3.out.any
  have hz:=stored_pv HZ3.out HB3.out (by omega) { x with t:=36 }
  have hgd:=(G.ty 36 (G.keep HG3.out (fun a v ha hc=>(setPv_grown w3 (w.heap.size+1) { x with t:=36 }).cell hc (by rw [HSZ.out] at ha;simp;omega))))
  simp only [setPv] at hz hgd
  have HZZ:=hidden hz
  have HGG:=hidden (G.mono hgd (by rw [HSZ.out];omega:w.heap.size≤_))
  clear hz hgd
  go_wp2
  exact ret_pv (g:=w.heap.size+1) rfl rfl rfl rfl HZZ.out.1 ⟨_,rfl,HZZ.out.2,Or.inl ⟨rfl,rfl,HGG.out⟩⟩
 ·have hE':(E != 0)=true:=by simpa using hE
  have HE:=hidden hE
  clear hE HGO
  have HZ2:=hidden (HZA.out.alloc (.cells #[.int .i64 x.t,.slice x.pr.p x.pr.n x.pr.c,.int .i64 x.eg,.slice x.ed.p x.ed.n x.ed.c,.int .i64 x.ik,.slice x.id.p x.id.n x.id.c,.int .i64 x.am,.slice x.ad.p x.ad.n x.ad.c,.int .i64 x.np,.slice x.ns.p x.ns.n x.ns.c,.int .i64 x.nt,.slice x.nd.p x.nd.n x.nd.c,.int .i64 x.dp,.slice x.ds.p x.ds.n x.ds.c,.slice x.se.p x.se.n x.se.c,.slice x.da.p x.da.n x.da.c] 49))
  have HB2:=hidden (HBA.out.alloc HBA.out.size (.cells #[.int .i64 x.t,.slice x.pr.p x.pr.n x.pr.c,.int .i64 x.eg,.slice x.ed.p x.ed.n x.ed.c,.int .i64 x.ik,.slice x.id.p x.id.n x.id.c,.int .i64 x.am,.slice x.ad.p x.ad.n x.ad.c,.int .i64 x.np,.slice x.ns.p x.ns.n x.ns.c,.int .i64 x.nt,.slice x.nd.p x.nd.n x.nd.c,.int .i64 x.dp,.slice x.ds.p x.ds.n x.ds.c,.slice x.se.p x.se.n x.se.c,.slice x.da.p x.da.n x.da.c] 49))
  clear HZA HBA
  generalize hw3:w2.alloc (.cells #[.int .i64 x.t,.slice x.pr.p x.pr.n x.pr.c,.int .i64 x.eg,.slice x.ed.p x.ed.n x.ed.c,.int .i64 x.ik,.slice x.id.p x.id.n x.id.c,.int .i64 x.am,.slice x.ad.p x.ad.n x.ad.c,.int .i64 x.np,.slice x.ns.p x.ns.n x.ns.c,.int .i64 x.nt,.slice x.nd.p x.nd.n x.nd.c,.int .i64 x.dp,.slice x.ds.p x.ds.n x.ds.c,.slice x.se.p x.se.n x.se.c,.slice x.da.p x.da.n x.da.c] 49)=w3 at *
  obtain ⟨y0,y1,y2,y3,y4,y5,y6,y7,y8,y9,y10,y11,y12,y13,y14,y15,z0,z1,z2,z3,z4,z5,z6,z7,z8,z9,z10,z11,z12,z13,z14,z15,zf⟩:=HZ2.out.any
  have hz:=stored_pv HZ2.out HB2.out (by omega) zeroP
  simp only [setPv,zeroP,nilV] at hz
  have HZZ:=hidden hz
  clear hz hw3
  go_wp2
  exact ret_pv (g:=w.heap.size+1) rfl rfl rfl rfl HZZ.out.1 ⟨zeroP,rfl,HZZ.out.2,Or.inr ⟨HE.out,rfl⟩⟩
end Go.Proofs.YtgpigjoonhghhaaGreat
