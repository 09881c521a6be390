/-
 The document's own Build of a payload whose numbers fit.
 message.read: whatever raw payloads, a message and no error, or an error that has a notification.
-/
import Derived.Test.YtgpigjoonhghhaaGreatQZ28
import Derived.Test.YtgpigjoonhghhaaGreatQZ7
import Derived.Test.YtgpigjoonhghhaaGreatQZ32
import Derived.Test.YtgpigjoonhghhaaGreatQZ27
import Derived.Test.YtgpigjoonhghhaaGreatQZ8
import Derived.Test.YtgpigjoonhghhaaGreatQZ29
namespace Go.Proofs.YtgpigjoonhghhaaGreat
open Go.RowKit
set_option linter.unusedVariables false
set_option linter.unusedSimpArgs false
def rbodyA (x:Pv) (C:Pc):List Int × Int:=if x.t=42 then remB x.dp (C.ds.map Sb.xs) else rbodyB x C
set_option maxHeartbeats 1600000 in
set_option maxRecDepth 100000 in
theorem rbody_all (x:Pv) (C:Pc) (w:World) (h:PvRk w x C) (f:Fit x) (sz:PvSz x) (hd:x.t=42→x.ds.n≤1000):Calls Tryz.prog 17 #[(.agg #[.int .i64 x.t,.slice x.pr.p x.pr.n x.pr.c,.int .i64 x.eg,.slice x.ed.p x.ed.n x.ed.c,.int .i64 x.ik,.slice x.id.p x.id.n x.id.c,.int .i64 x.am,.slice x.ad.p x.ad.n x.ad.c,.int .i64 x.np,.slice x.ns.p x.ns.n x.ns.c,.int .i64 x.nt,.slice x.nd.p x.nd.n x.nd.c,.int .i64 x.dp,.slice x.ds.p x.ds.n x.ds.c,.slice x.se.p x.se.n x.se.c,.slice x.da.p x.da.n x.da.c])] w (GotBE w (rbodyA x C).1 (rbodyA x C).2):=by
 by_cases h42:x.t=42
 ·have hds:=(h.a42 h42).ds
  have hdn:=hd h42
  have hre:rbodyA x C=remB x.dp (C.ds.map Sb.xs):=by unfold rbodyA;rw [if_pos h42]
  rw [hre]
  have HB:=hidden ((Below.refl w.heap.size w).alloc (Nat.le_refl _) (.cells #[.int .i64 x.t,.slice x.pr.p x.pr.n x.pr.c,.int .i64 x.eg,.slice x.ed.p x.ed.n x.ed.c,.int .i64 x.ik,.slice x.id.p x.id.n x.id.c,.int .i64 x.am,.slice x.ad.p x.ad.n x.ad.c,.int .i64 x.np,.slice x.ns.p x.ns.n x.ns.c,.int .i64 x.nt,.slice x.nd.p x.nd.n x.nd.c,.int .i64 x.dp,.slice x.ds.p x.ds.n x.ds.c,.slice x.se.p x.se.n x.se.c,.slice x.da.p x.da.n x.da.c] 49))
  have HPV:=hidden (PvIn.new w x 49)
  clear f sz h hd hre
  obtain ⟨t,pr,eg,ed,ik,id,am,ad,np,ns,nt,nd,dp,ds,se,da⟩:=x
  dsimp only at *
  subst h42
  obtain ⟨w1,hw1⟩ : ∃ w1,w.alloc (.cells #[.int .i64 42,.slice pr.p pr.n pr.c,.int .i64 eg,.slice ed.p ed.n ed.c,.int .i64 ik,.slice id.p id.n id.c,.int .i64 am,.slice ad.p ad.n ad.c,.int .i64 np,.slice ns.p ns.n ns.c,.int .i64 nt,.slice nd.p nd.n nd.c,.int .i64 dp,.slice ds.p ds.n ds.c,.slice se.p se.n se.c,.slice da.p da.n da.c] 49)=w1:=⟨_,rfl⟩
  rw [hw1] at HB HPV
  have HC:=hidden (removal_any dp ds.p ds.n ds.c C.ds w1 (hds.below HB.out) hdn)
  generalize (remB dp (C.ds.map Sb.xs)).1=L at *
  generalize (remB dp (C.ds.map Sb.xs)).2=E at *
  clear hds hdn
  go_enter Tryz.func17,Tryz.ntmps17
  go_upto_region 1 with fail
  obtain ⟨c0,c1,c2,c3,c4,c5,c6,c7,c8,c9,c10,c11,c12,c13,c14,c15,cf⟩:=HPV.out
  go_wp2_with (first
   | (go_at_call 39;(with_reducible refine (HC.out).mono ?_);rintro e w2 ⟨q2,d2,rfl,hf,hb⟩;have HF:=hidden (hf.mono HB.out.size);have HB2:=hidden (HB.out.trans (hb.mono HB.out.size));clear hf hb)
   | fail)
  go_ret2
  exact ⟨q2,d2,rfl,HF.out,HB2.out⟩
 ·have hre:rbodyA x C=rbodyB x C:=by unfold rbodyA;rw [if_neg h42]
  rw [hre]
  exact rbody_any x C w h f sz h42
def rawR (t:Int) (L:List Int) (E:Int):Int:=if E≠0 then E else if parseE t L≠0 then parseE t L else if 65531<L.length then 11 else 0
set_option maxHeartbeats 3200000 in
set_option maxRecDepth 100000 in
theorem rpBuild_of (x:Pv) (L:List Int) (E:Int) (w:World) (hF:Fit x) (hB : ∀ W,Below w.heap.size w W→Calls Tryz.prog 17 #[(.agg #[.int .i64 x.t,.slice x.pr.p x.pr.n x.pr.c,.int .i64 x.eg,.slice x.ed.p x.ed.n x.ed.c,.int .i64 x.ik,.slice x.id.p x.id.n x.id.c,.int .i64 x.am,.slice x.ad.p x.ad.n x.ad.c,.int .i64 x.np,.slice x.ns.p x.ns.n x.ns.c,.int .i64 x.nt,.slice x.nd.p x.nd.n x.nd.c,.int .i64 x.dp,.slice x.ds.p x.ds.n x.ds.c,.slice x.se.p x.se.n x.se.c,.slice x.da.p x.da.n x.da.c])] W (GotBE W L E)) (hL:L.length≤1048576) (R:Int) (hR:rawR x.t L E=R) :
  Calls Tryz.prog 7 #[(.agg #[.int .i64 x.t,.slice x.pr.p x.pr.n x.pr.c,.int .i64 x.eg,.slice x.ed.p x.ed.n x.ed.c,.int .i64 x.ik,.slice x.id.p x.id.n x.id.c,.int .i64 x.am,.slice x.ad.p x.ad.n x.ad.c,.int .i64 x.np,.slice x.ns.p x.ns.n x.ns.c,.int .i64 x.nt,.slice x.nd.p x.nd.n x.nd.c,.int .i64 x.dp,.slice x.ds.p x.ds.n x.ds.c,.slice x.se.p x.se.n x.se.c,.slice x.da.p x.da.n x.da.c])] w (GotRaw w x.t L R):=by
 obtain ⟨P,hP⟩ : ∃ P,parseE x.t L=P:=⟨_,rfl⟩
 obtain ⟨G,hG⟩ : ∃ G,gdK x.t L=G:=⟨_,rfl⟩
 have hcase:(E≠0∧R=E)∨(E=0∧P≠0∧R=P)∨(E=0∧P=0∧65531<L.length∧R=11)∨(E=0∧P=0∧¬ 65531<L.length∧R=0):=by
  unfold rawR at hR
  rw [hP] at hR
  by_cases h3:E≠0
  ·rw [if_pos h3] at hR;omega
  rw [if_neg h3] at hR
  by_cases h4:P≠0
  ·rw [if_pos h4] at hR;omega
  rw [if_neg h4] at hR
  by_cases h5:65531<L.length
  ·rw [if_pos h5] at hR;omega
  ·rw [if_neg h5] at hR;omega
 have HCASE:=hidden hcase
 clear hcase
 have HPA:=hidden (fun W q d (h:Byt W q L.length d L)=>rpparse_any x.t q L.length d L false W h hL)
 rw [hP,hG] at HPA
 have h1:=hF.r.1
 have h2:=hF.r.2
 have n1:¬ x.t<1:=by omega
 have n2:¬ 255<x.t:=by omega
 have HFT:=hidden (fun W=>rfits_yes x W hF)
 obtain ⟨w1,hw1⟩ : ∃ w1,(w.alloc (.cells #[.int .i64 x.t,.slice x.pr.p x.pr.n x.pr.c,.int .i64 x.eg,.slice x.ed.p x.ed.n x.ed.c,.int .i64 x.ik,.slice x.id.p x.id.n x.id.c,.int .i64 x.am,.slice x.ad.p x.ad.n x.ad.c,.int .i64 x.np,.slice x.ns.p x.ns.n x.ns.c,.int .i64 x.nt,.slice x.nd.p x.nd.n x.nd.c,.int .i64 x.dp,.slice x.ds.p x.ds.n x.ds.c,.slice x.se.p x.se.n x.se.c,.slice x.da.p x.da.n x.da.c] 49)).alloc (.cells #[.int .i64 0,.bool false,.slice none 0 0] 51)=w1:=⟨_,rfl⟩
 have hb1:Below w.heap.size w w1:=by rw [←hw1];exact ((Below.refl _ w).alloc (Nat.le_refl _) _).alloc (by simp) _
 have hP1:PvIn w1 w.heap.size x:=by rw [←hw1];exact (PvIn.new w x 49).alloc _
 have k0:w1.cell? ⟨w.heap.size+1,0,none⟩=some (.int .i64 0):=by rw [←hw1];clear hw1 hP1 hb1 HPA HFT;go_simp
 have k1:w1.cell? ⟨w.heap.size+1,1,none⟩=some (.bool false):=by rw [←hw1];clear hw1 k0 hP1 hb1 HPA HFT;go_simp
 have k2:w1.cell? ⟨w.heap.size+1,2,none⟩=some (.slice none 0 0):=by rw [←hw1];clear hw1 k0 k1 hP1 hb1 HPA HFT;go_simp
 have kf : ∀ j,w1.frozen? ⟨w.heap.size+1,j,none⟩=false:=by rw [←hw1];clear hw1 k0 k1 k2 hP1 hb1 HPA HFT;intro j;go_simp
 have hsz:w1.heap.size=w.heap.size+2:=by rw [←hw1];simp
 have HB1:=hidden hb1
 have HBC:=hidden hB
 have HP1:=hidden hP1
 have HPC:=hidden (fun W (hW:Below w1.heap.size w1 W)=>(⟨cell_below hW _ _ k0,cell_below hW _ _ k1,cell_below hW _ _ k2,fun j=>(World.frozen?_of_block (a:=⟨w.heap.size+1,j,none⟩) (hW.block (w.heap.size+1) (by omega))).trans (kf j),HP1.out.below hW,HB1.out.trans (hW.mono HB1.out.size)⟩:W.cell? ⟨w.heap.size+1,0,none⟩=some (.int .i64 0)∧W.cell? ⟨w.heap.size+1,1,none⟩=some (.bool false)∧W.cell? ⟨w.heap.size+1,2,none⟩=some (.slice none 0 0)∧(∀ j,W.frozen? ⟨w.heap.size+1,j,none⟩=false)∧PvIn W w.heap.size x∧Below w.heap.size w W))
 clear hB hb1 hR hP hG hF h1 h2
 obtain ⟨c0,c1,c2,c3,c4,c5,c6,c7,c8,c9,c10,c11,c12,c13,c14,c15,cf⟩:=hP1
 go_enter Tryz.func7,Tryz.ntmps7
 go_upto_region 1 with fail
 clear hw1
 go_upto_region 3 with (first
  | (go_at_call 16;(with_reducible refine (HFT.out _).mono ?_);rintro e w2 ⟨rfl,hb⟩;have HB2:Hid (Below w1.heap.size w1 w2):=hidden hb;clear hb)
  | fail)
 clear c0 c1 c2 c3 c4 c5 c6 c7 c8 c9 c10 c11 c12 c13 c14 c15 cf k0 k1 k2 kf
 obtain ⟨k0,k1,k2,kf,hP2,hbw⟩:=HPC.out w2 HB2.out
 have HBW2:=hidden hbw
 obtain ⟨c0,c1,c2,c3,c4,c5,c6,c7,c8,c9,c10,c11,c12,c13,c14,c15,cf⟩:=hP2
 go_upto_region 4 with (first
  | (go_at_call 17;(with_reducible refine (HBC.out w2 HBW2.out).mono ?_);rintro e w5 ⟨q5,d5,rfl,hf5,hb5⟩;have HF5:=hidden (hf5.mono (show w1.heap.size≤w2.heap.size from HB2.out.size));have HB5:Hid (Below w1.heap.size w1 w5):=hidden (HB2.out.trans (hb5.mono HB2.out.size));clear hf5 hb5)
  | fail)
 clear c0 c1 c2 c3 c4 c5 c6 c7 c8 c9 c10 c11 c12 c13 c14 c15 cf k0 k1 k2 kf hbw
 obtain ⟨k0,k1,k2,kf,hP5,hbw⟩:=HPC.out w5 HB5.out
 have HBW:=hidden hbw
 obtain ⟨c0,-⟩:=hP5
 have HLT:=hidden (show w.heap.size+1<w5.heap.size by have:=HB5.out.size;omega)
 clear hbw
 obtain hcase:=HCASE.out
 clear HCASE
 rcases hcase with ⟨h3,rfl⟩ | hcase
 ·have hst:=HBW.out.setCell (p:=⟨w.heap.size+1,0,none⟩) (by simp) (.int .i64 0)
  have hst:=hst.setCell (p:=⟨w.heap.size+1,1,none⟩) (by simp) (.bool false)
  have hst:=hst.setCell (p:=⟨w.heap.size+1,2,none⟩) (by simp) (.slice none 0 0)
  have HST:=hidden hst
  clear hst
  have hne:(R != 0)=true:=by simpa using h3
  go_wp2
  exact ret_raw3 (g:=w.heap.size+1) rfl rfl rfl rfl (by go_simp) (by go_simp) (by go_simp) ⟨HST.out,Or.inr ⟨h3,rfl⟩⟩
 have hE0:E=0:=by rcases hcase with ⟨h,-⟩ | ⟨h,-⟩ | ⟨h,-⟩<;>exact h
 subst hE0
 have HCASE:=hidden hcase
 clear hcase
 have hlt5:=HLT.out
 have hne5:w.heap.size+1≠w5.heap.size:=by omega
 go_upto_region 7 with fail
 have HF7:=hidden (HF5.out.below ((Below.refl _ w5).alloc (Nat.le_refl _) (.cells #[.int .i64 x.t,.bool false,.slice q5 L.length d5] 51)))
 have HB7:=hidden (HB5.out.alloc HB5.out.size (.cells #[.int .i64 x.t,.bool false,.slice q5 L.length d5] 51))
 have d0:(w5.alloc (.cells #[.int .i64 x.t,.bool false,.slice q5 L.length d5] 51)).cell? ⟨w5.heap.size,0,none⟩=some (.int .i64 x.t):=by go_simp
 have d1:(w5.alloc (.cells #[.int .i64 x.t,.bool false,.slice q5 L.length d5] 51)).cell? ⟨w5.heap.size,1,none⟩=some (.bool false):=by go_simp
 have d2:(w5.alloc (.cells #[.int .i64 x.t,.bool false,.slice q5 L.length d5] 51)).cell? ⟨w5.heap.size,2,none⟩=some (.slice q5 L.length d5):=by go_simp
 generalize w5.alloc (.cells #[.int .i64 x.t,.bool false,.slice q5 L.length d5] 51)=w7 at *
 have HD:=hidden (fun W (hW:Below w7.heap.size w7 W)=>(⟨cell_below hW _ _ d0,cell_below hW _ _ d1,cell_below hW _ _ d2⟩:W.cell? ⟨w5.heap.size,0,none⟩=some (.int .i64 x.t)∧W.cell? ⟨w5.heap.size,1,none⟩=some (.bool false)∧W.cell? ⟨w5.heap.size,2,none⟩=some (.slice q5 L.length d5)))
 generalize w5.heap.size=B5 at *
 clear k0 k1 k2 kf c0 hlt5
 go_upto_region 8 with (first
  | (go_at_call 18;(with_reducible refine (HPA.out w7 q5 d5 HF7.out.1).mono ?_);rintro e w8 ⟨y,rfl,hb8,-⟩;have HB8:=hidden hb8;clear hb8)
  | fail)
 have HB9:=hidden (HB8.out.alloc HB8.out.size (.cells #[.int .i64 y.t,.slice y.pr.p y.pr.n y.pr.c,.int .i64 y.eg,.slice y.ed.p y.ed.n y.ed.c,.int .i64 y.ik,.slice y.id.p y.id.n y.id.c,.int .i64 y.am,.slice y.ad.p y.ad.n y.ad.c,.int .i64 y.np,.slice y.ns.p y.ns.n y.ns.c,.int .i64 y.nt,.slice y.nd.p y.nd.n y.nd.c,.int .i64 y.dp,.slice y.ds.p y.ds.n y.ds.c,.slice y.se.p y.se.n y.se.c,.slice y.da.p y.da.n y.da.c] 49))
 generalize w8.alloc (.cells #[.int .i64 y.t,.slice y.pr.p y.pr.n y.pr.c,.int .i64 y.eg,.slice y.ed.p y.ed.n y.ed.c,.int .i64 y.ik,.slice y.id.p y.id.n y.id.c,.int .i64 y.am,.slice y.ad.p y.ad.n y.ad.c,.int .i64 y.np,.slice y.ns.p y.ns.n y.ns.c,.int .i64 y.nt,.slice y.nd.p y.nd.n y.nd.c,.int .i64 y.dp,.slice y.ds.p y.ds.n y.ds.c,.slice y.se.p y.se.n y.se.c,.slice y.da.p y.da.n y.da.c] 49)=w9 at *
 obtain ⟨k0,k1,k2,kf,-,hbw9⟩:=HPC.out w9 (HB7.out.trans (HB9.out.mono HB7.out.size))
 obtain ⟨e0,e1,e2⟩:=HD.out w9 HB9.out
 have HBW9:=hidden hbw9
 have HF9:=hidden (HF7.out.below HB9.out)
 have hlt9:=HLT.out
 clear d0 d1 d2 hbw9
 rcases HCASE.out with ⟨-,h4,rfl⟩ | ⟨-,rfl,h4,rfl⟩ | ⟨-,rfl,h4,rfl⟩
 ·have hne:(R != 0)=true:=by simpa using h4
  have hst:=HBW9.out.setCell (p:=⟨w.heap.size+1,0,none⟩) (by simp) (.int .i64 0)
  have hst:=hst.setCell (p:=⟨w.heap.size+1,1,none⟩) (by simp) (.bool false)
  have hst:=hst.setCell (p:=⟨w.heap.size+1,2,none⟩) (by simp) (.slice none 0 0)
  have HST:=hidden hst
  clear hst
  clear HCASE
  go_wp2
  exact ret_raw3 (g:=w.heap.size+1) rfl rfl rfl rfl (by go_simp) (by go_simp) (by go_simp) ⟨HST.out,Or.inr ⟨h4,rfl⟩⟩
 ·have hgt:(65531:Int)<(L.length:Int):=by omega
  have hst:=HBW9.out.setCell (p:=⟨w.heap.size+1,0,none⟩) (by simp) (.int .i64 0)
  have hst:=hst.setCell (p:=⟨w.heap.size+1,1,none⟩) (by simp) (.bool false)
  have hst:=hst.setCell (p:=⟨w.heap.size+1,2,none⟩) (by simp) (.slice none 0 0)
  have HST:=hidden hst
  clear hst
  clear HCASE
  go_wp2
  exact ret_raw3 (g:=w.heap.size+1) rfl rfl rfl rfl (by go_simp) (by go_simp) (by go_simp) ⟨HST.out,Or.inr ⟨by decide,rfl⟩⟩
 ·have hgt:¬ (65531:Int)<(L.length:Int):=by omega
  have hst:=HBW9.out.setCell (p:=⟨w.heap.size+1,0,none⟩) (by simp) (.int .i64 x.t)
  have hst:=hst.setCell (p:=⟨w.heap.size+1,1,none⟩) (by simp) (.bool false)
  have hst:=hst.setCell (p:=⟨w.heap.size+1,2,none⟩) (by simp) (.slice q5 L.length d5)
  have hff:=((HF9.out.low (grown_set w9 (w.heap.size+1) 0 (.int .i64 x.t)) (by omega)).low (grown_set _ (w.heap.size+1) 1 (.bool false)) (by omega)).low (grown_set _ (w.heap.size+1) 2 (.slice q5 L.length d5)) (by omega)
  have HFF:=hidden (hff.mono (show w.heap.size≤w1.heap.size from by omega))
  clear hff
  have HST:=hidden hst
  clear hst HCASE
  go_wp2
  exact ret_raw3 (g:=w.heap.size+1) rfl rfl rfl rfl (by go_simp) (by go_simp) (by go_simp) ⟨HST.out,Or.inl ⟨rfl,q5,d5,rfl,HFF.out⟩⟩
end Go.Proofs.YtgpigjoonhghhaaGreat

namespace Go.Proofs.YtgpigjoonhghhaaGreat
open Go.RowKit
set_option linter.unusedVariables false
set_option linter.unusedSimpArgs false
theorem note_gd {t:Int} {xs:List Int} {base:Nat} {w':World} {x:Pv} (h:(gdK t xs).ok base w' x) (hx:x.t=t) (ht:0≤t∧t≤255) (hr : ∀ z∈xs,0≤z∧z≤255) (hl:xs.length≤1000000) : ∀ W,Kpt w' W base→NoteOk W x:=by
 obtain ⟨C,h1,h2⟩:=h
 intro W hW
 subst hx
 have hp:PvRk W x C:=h1 W hW
 have sz:=rd_sz x.t xs hr hl x C W hp h2
 exact ⟨⟨by omega,by omega⟩,fun e=>⟨_,(hp.a41 e).ns⟩,fun e=>⟨_,(hp.a41 e).nd⟩,fun e=>Nat.le_trans (sz.ns e) (by omega),fun e=>Nat.le_trans (sz.nd e) (by omega)⟩
theorem MIn.putS {w:World} {g:Nat} {i r nx x f m:Int} {v:Value} (h:MIn w g i r nx x f m v) (v':Value):MIn (w.setCell ⟨g,6,none⟩ v') g i r nx x f m v':=by
 obtain ⟨c0,c1,c2,c3,c4,c5,c6,fr⟩:=h
 exact ⟨by go_simp,by go_simp,by go_simp,by go_simp,by go_simp,by go_simp,by go_simp,fun j=>by rw [World.frozen?_setCell];exact fr j⟩
structure RSt (w:World) (g M:Nat) (i r nx x f m:Int) (v:Value) (l:List Pv) (wr:World):Prop where
 bel:Below w.heap.size w wr
 res:MIn wr g 0 0 0 0 0 0 (.slice none 0 0)
 msg:MIn wr M i r nx x f m v
 row:RowG KPv NTv wr (M+1) v l
 el : ∀ y∈l,ElemP (fun W=>NoteOk W y) wr (M+1) v
 ge:M+1≤wr.heap.size
theorem RSt.below {w:World} {g M:Nat} {i r nx x f m:Int} {v:Value} {l:List Pv} {wr wy:World} (h:RSt w g M i r nx x f m v l wr) (hb:Below wr.heap.size wr wy):RSt w g M i r nx x f m v l wy :=
 ⟨h.bel.trans (hb.mono h.bel.size),h.res.below hb,h.msg.below hb,h.row.below hb,fun y hy=>(h.el y hy).step (grown_of_below hb none) (fun q e=>by cases e),Nat.le_trans h.ge hb.size⟩
theorem RSt.app {w:World} {g M:Nat} {i r nx x f m:Int} {v v':Value} {l:List Pv} {y:Pv} {wr wy:World} (h:RSt w g M i r nx x f m v l wr) (he:ElemP (fun W=>NoteOk W y) wr (M+1) v) (hrow:RowG KPv NTv wy (M+1) v' (l++[y])) (hg:wr.grownBy wy v.ownBlock) (hq : ∀ q,v'.ownBlock=some q→v.ownBlock=some q∨wr.heap.size≤q) (hw:w.heap.size≤g) (hgM:g<M) :
  RSt w g M i r nx x f m v' (l++[y]) (wy.setCell ⟨M,6,none⟩ v'):=by
 have hlt:=h.row.lt
 have hs:=grown_set wy M 6 v'
 refine ⟨(h.bel.grown hg h.bel.size (fun q e=>by have:=hlt q e;omega)).setCell (show w.heap.size≤M by omega) _,?_,?_,hrow.low hs (by omega),fun z hz=>?_,Nat.le_trans h.ge (Nat.le_trans hg.size hs.size)⟩
 ·exact (h.res.grown hg (fun e=>by have:=hlt _ e.symm;omega)).grown hs (by simp;omega)
 ·exact (h.msg.grown hg (fun e=>by have:=hlt _ e.symm;omega)).putS _
 ·rcases List.mem_append.1 hz with hz | hz
  ·exact ((h.el z hz).app hg hq).step hs (fun q e=>by cases e;exact .inl (by omega))
  ·rw [List.mem_singleton.1 hz]
   exact (he.app hg hq).step hs (fun q e=>by cases e;exact .inl (by omega))
def ReadM (w:World) (e:Ending) (w':World):Prop :=
 ∃ (i r nx x f m:Int) (q:Option Addr) (n d:Nat) (E:Int),e=.returned (.tuple #[.agg #[.int .u64 i,.int .u64 r,.int .i64 nx,.int .i64 x,.int .i64 f,.int .u32 m,.slice q n d],.int .i64 E])∧Rp0 E∧Below w.heap.size w w'
theorem ret_msg2 {fn:Func} {R:Ending→World→Prop} {a:Act} {w:World} {p s:Nat} {g:Nat} {i r nx x f m:Int} {q:Option Addr} {n d:Nat} {u:Value} (h:fn.results=#[.cell p 32,.tmp s]) (hp:a.tmps.getD p undef=.pointer (some ⟨g,0,none⟩)) (hs:a.tmps.getD s undef=u) (hd:a.defers=[])
  (hh:MIn w g i r nx x f m (.slice q n d)) (hR:R (.returned (.tuple #[.agg #[.int .u64 i,.int .u64 r,.int .i64 nx,.int .i64 x,.int .i64 f,.int .u32 m,.slice q n d],u])) w):bodyPost Tryz.prog fn R .ret a w:=by
 refine bodyPost_ret (v:=.tuple #[.agg #[.int .u64 i,.int .u64 r,.int .i64 nx,.int .i64 x,.int .i64 f,.int .u32 m,.slice q n d],u]) ?_ hd hR
 rw [Array.getD_eq_getD_getElem?] at hp hs
 simp [results,h,hp,hs,asAddr,load_msg hh,Result.andThen]
theorem MIn.setAll {w:World} {g:Nat} {i r nx x f m:Int} {v:Value} (h:MIn w g i r nx x f m v) (i' r' nx' x' f' m':Int) (v':Value) :
  MIn (((((((w.setCell ⟨g,0,none⟩ (.int .u64 i')).setCell ⟨g,1,none⟩ (.int .u64 r')).setCell ⟨g,2,none⟩ (.int .i64 nx')).setCell ⟨g,3,none⟩ (.int .i64 x')).setCell ⟨g,4,none⟩ (.int .i64 f')).setCell ⟨g,5,none⟩ (.int .u32 m')).setCell ⟨g,6,none⟩ v') g i' r' nx' x' f' m' v':=by
 obtain ⟨c0,c1,c2,c3,c4,c5,c6,fr⟩:=h
 exact ⟨by go_simp,by go_simp,by go_simp,by go_simp,by go_simp,by go_simp,by go_simp,fun j=>by rw [World.frozen?_setCell,World.frozen?_setCell,World.frozen?_setCell,World.frozen?_setCell,World.frozen?_setCell,World.frozen?_setCell,World.frozen?_setCell];exact fr j⟩
theorem below_setAll {B:Nat} {w0 w:World} (h:Below B w0 w) {g:Nat} (hg:B≤g) (i' r' nx' x' f' m':Int) (v':Value) :
  Below B w0 (((((((w.setCell ⟨g,0,none⟩ (.int .u64 i')).setCell ⟨g,1,none⟩ (.int .u64 r')).setCell ⟨g,2,none⟩ (.int .i64 nx')).setCell ⟨g,3,none⟩ (.int .i64 x')).setCell ⟨g,4,none⟩ (.int .i64 f')).setCell ⟨g,5,none⟩ (.int .u32 m')).setCell ⟨g,6,none⟩ v') :=
 ((((((h.setCell hg _).setCell hg _).setCell hg _).setCell hg _).setCell hg _).setCell hg _).setCell hg _
theorem RSt.start (w:World) (i r nx x f m:Int):RSt w (w.heap.size+1) (w.heap.size+1+1) i r nx x f m (.slice none 0 0) [] (((w.alloc (.cells #[.int .u64 i,.int .u64 r,.int .i64 nx,.int .i64 x,.int .i64 f,.int .u32 m] 29)).alloc (.cells #[.int .u64 0,.int .u64 0,.int .i64 0,.int .i64 0,.int .i64 0,.int .u32 0,.slice none 0 0] 32)).alloc (.cells #[.int .u64 i,.int .u64 r,.int .i64 nx,.int .i64 x,.int .i64 f,.int .u32 m,.slice none 0 0] 32)):=by
 have s1:(w.alloc (.cells #[.int .u64 i,.int .u64 r,.int .i64 nx,.int .i64 x,.int .i64 f,.int .u32 m] 29)).heap.size=w.heap.size+1:=World.size_alloc _ _
 have hb1:=(Below.refl w.heap.size w).alloc (Nat.le_refl _) (.cells #[.int .u64 i,.int .u64 r,.int .i64 nx,.int .i64 x,.int .i64 f,.int .u32 m] 29)
 generalize w.alloc _=wa at *
 have hm:=MIn.new wa 0 0 0 0 0 0 (.slice none 0 0) 32
 have s2:(wa.alloc (.cells #[.int .u64 0,.int .u64 0,.int .i64 0,.int .i64 0,.int .i64 0,.int .u32 0,.slice none 0 0] 32)).heap.size=w.heap.size+1+1:=by rw [World.size_alloc,s1]
 have hb2:=hb1.alloc hb1.size (.cells #[.int .u64 0,.int .u64 0,.int .i64 0,.int .i64 0,.int .i64 0,.int .u32 0,.slice none 0 0] 32)
 rw [s1] at hm
 generalize wa.alloc _=wb at *
 have hn:=MIn.new wb i r nx x f m (.slice none 0 0) 32
 have s3:(wb.alloc (.cells #[.int .u64 i,.int .u64 r,.int .i64 nx,.int .i64 x,.int .i64 f,.int .u32 m,.slice none 0 0] 32)).heap.size=w.heap.size+1+1+1:=by rw [World.size_alloc,s2]
 rw [s2] at hn
 exact ⟨hb2.alloc hb2.size _,hm.below ((Below.refl _ _).alloc (Nat.le_refl _) _),hn,RowG.nil _ _ _ _,fun y hy=>(by cases hy),by rw [s3];exact Nat.le_refl _⟩
end Go.Proofs.YtgpigjoonhghhaaGreat
