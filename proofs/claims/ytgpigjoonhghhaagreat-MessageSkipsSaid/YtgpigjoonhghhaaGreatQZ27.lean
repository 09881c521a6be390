/-
 The document's own body of a payload whose numbers fit: all types but deletions.
 The message that a list of choices makes (Codes.Message): its header, and payloads of the twelve types.
-/
import Derived.Test.YtgpigjoonhghhaaGreatQZ8
import Derived.Test.YtgpigjoonhghhaaGreatQRBuild4
import Derived.Test.YtgpigjoonhghhaaGreatQZ26
import Derived.Test.YtgpigjoonhghhaaGreatQZ2
import Derived.Test.YtgpigjoonhghhaaGreatQZ5
import Derived.Test.YtgpigjoonhghhaaGreatQZ17
import Derived.Test.YtgpigjoonhghhaaGreatQZ29
import Derived.Test.YtgpigjoonhghhaaGreatQZ30
import Derived.Test.YtgpigjoonhghhaaGreatQZ34
import Derived.Test.YtgpigjoonhghhaaGreatQPayMk41
import Derived.Test.YtgpigjoonhghhaaGreatQPayMk43
import Derived.Deep.RegionHeld3
import Derived.Deep.QuietTactic
import Derived.BigQuiet
import Derived.Deep.CutBlock
namespace Go.Proofs.YtgpigjoonhghhaaGreat
open Go.RowKit
set_option linter.unusedVariables false
set_option maxHeartbeats 800000 in
set_option maxRecDepth 100000 in
theorem rwidth_same (k:Int) (w:World):Calls Tryz.prog 38 #[.int .i64 k] w fun e w'=>e=.returned (.int .i64 (widthN k))∧w'=w:=by
 unfold widthN
 by_cases h0:k=0
 ·subst h0
  go_enter Tryz.func38,Tryz.ntmps38
  go_wp2
  go_ret
  exact ⟨rfl,rfl⟩
 by_cases h1:k=1
 ·subst h1
  go_enter Tryz.func38,Tryz.ntmps38
  go_wp2
  go_ret
  exact ⟨rfl,rfl⟩
 have e0:(k == 0)=false:=by simpa using h0
 have e1:(k == 1)=false:=by simpa using h1
 rw [if_neg (by omega)]
 clear h0 h1
 go_enter Tryz.func38,Tryz.ntmps38
 go_wp2
 go_ret
 exact ⟨rfl,rfl⟩
def rbodyB (x:Pv) (C:Pc):List Int × Int :=
 if x.t=33 then buildP (C.pr.map PrP.pr)
 else if x.t=34 then (exchL x.eg C.ed,0)
 else if x.t=35∨x.t=36 then (headL x.ik C.id,0)
 else if x.t=39 then (headL x.am C.ad,0)
 else if x.t=41 then (if 3<x.np then ([],5) else if (x.ns.n:Int)≠widthN x.np then ([],20) else (noteL x.np x.nt C.ns C.nd,0))
 else if x.t=44∨x.t=45 then buildS C.se
 else (C.da,0)
theorem be_exch (g:Int) (h0:0≤g) (h1:g≤65535):be 4 (g*65536)=[g / 256 % 256,g % 256,0,0]:=by
 have e:be 4 (g*65536)=[g*65536 / 2 ^ (8*3) % 256,g*65536 / 2 ^ (8*2) % 256,g*65536 / 2 ^ (8*1) % 256,g*65536 / 2 ^ (8*0) % 256]:=rfl
 rw [e]
 simp only [List.cons.injEq,and_true]
 refine ⟨by omega,by omega,by omega,by omega⟩
theorem be_two (v:Int) (h0:0≤v) (h1:v≤65535):be 2 v=[v / 256 % 256,v % 256]:=by
 have e:be 2 v=[v / 2 ^ (8*1) % 256,v / 2 ^ (8*0) % 256]:=rfl
 rw [e]
 simp only [List.cons.injEq,and_true]
 refine ⟨by omega,by omega⟩
theorem own_two6 (w:World) (base:Nat) (hb:base≤w.heap.size) (x0 x1:Int):Own (w.alloc (.cells #[.int .u8 x0,.int .u8 x1] 5)) base 5 (.slice (some ⟨w.heap.size,0,none⟩) 2 2) [x0,x1] :=
 ⟨rfl,Or.inr ⟨w.heap.size,2,#[.int .u8 x0,.int .u8 x1],rfl,hb,heap_alloc_new w _,Nat.le_refl _,by unfold maxLen;omega,rfl,rfl⟩⟩
theorem byt_two6 (w:World) (x0 x1:Int) (h0:0≤x0∧x0≤255) (h1:0≤x1∧x1≤255):Byt (w.alloc (.cells #[.int .u8 x0,.int .u8 x1] 5)) (some ⟨w.heap.size,0,none⟩) 2 2 [x0,x1]:=by
 obtain ⟨p,c,e,h⟩:=(own_two6 w 0 (Nat.zero_le _) x0 x1).byt (by intro z hz;simp at hz;omega)
 cases e
 exact h
set_option maxHeartbeats 6400000 in
set_option maxRecDepth 100000 in
theorem rbody_any (x:Pv) (C:Pc) (w:World) (h:PvRk w x C) (f:Fit x) (sz:PvSz x) (h42:x.t≠42):Calls Tryz.prog 17 #[(.agg #[.int .i64 x.t,.slice x.pr.p x.pr.n x.pr.c,.int .i64 x.eg,.slice x.ed.p x.ed.n x.ed.c,.int .i64 x.ik,.slice x.id.p x.id.n x.id.c,.int .i64 x.am,.slice x.ad.p x.ad.n x.ad.c,.int .i64 x.np,.slice x.ns.p x.ns.n x.ns.c,.int .i64 x.nt,.slice x.nd.p x.nd.n x.nd.c,.int .i64 x.dp,.slice x.ds.p x.ds.n x.ds.c,.slice x.se.p x.se.n x.se.c,.slice x.da.p x.da.n x.da.c])] w (GotBE w (rbodyB x C).1 (rbodyB x C).2):=by
 obtain ⟨i0,hi0,hz0,hz1,hz2⟩:=info_parts Tryz.infoByte
 have HB:=hidden ((Below.refl w.heap.size w).alloc (Nat.le_refl _) (.cells #[.int .i64 x.t,.slice x.pr.p x.pr.n x.pr.c,.int .i64 x.eg,.slice x.ed.p x.ed.n x.ed.c,.int .i64 x.ik,.slice x.id.p x.id.n x.id.c,.int .i64 x.am,.slice x.ad.p x.ad.n x.ad.c,.int .i64 x.np,.slice x.ns.p x.ns.n x.ns.c,.int .i64 x.nt,.slice x.nd.p x.nd.n x.nd.c,.int .i64 x.dp,.slice x.ds.p x.ds.n x.ds.c,.slice x.se.p x.se.n x.se.c,.slice x.da.p x.da.n x.da.c] 49))
 have HPV:=hidden (PvIn.new w x 49)
 unfold rbodyB
 obtain ⟨t,pr,eg,ed,ik,id,am,ad,np,ns,nt,nd,dp,ds,se,da⟩:=x
 dsimp only at *
 obtain ⟨⟨t0,t1⟩,f34,f35,f39,f41,-⟩:=f
 dsimp only at *
 obtain ⟨w1,hw1⟩ : ∃ w1,w.alloc (.cells #[.int .i64 t,.slice pr.p pr.n pr.c,.int .i64 eg,.slice ed.p ed.n ed.c,.int .i64 ik,.slice id.p id.n id.c,.int .i64 am,.slice ad.p ad.n ad.c,.int .i64 np,.slice ns.p ns.n ns.c,.int .i64 nt,.slice nd.p nd.n nd.c,.int .i64 dp,.slice ds.p ds.n ds.c,.slice se.p se.n se.c,.slice da.p da.n da.c] 49)=w1:=⟨_,rfl⟩
 rw [hw1] at HB HPV
 by_cases h33_:t=33
 ·subst h33_
  rw [if_pos rfl]
  have hpr:=(h.a33 rfl).pr
  have hr:=buildP_rng _ hpr.rng (L:=(buildP (C.pr.map PrP.pr)).1) (E:=(buildP (C.pr.map PrP.pr)).2) rfl
  have HC:=hidden (rbuild_any pr.p pr.n pr.c C.pr w1 (hpr.below HB.out) (buildP (C.pr.map PrP.pr)).1 (buildP (C.pr.map PrP.pr)).2 rfl)
  generalize buildP (C.pr.map PrP.pr)=R at *
  obtain ⟨L,E⟩:=R
  have HR:=hidden hr
  clear h hr hpr f34 f35 f39 f41 sz
  dsimp only at HC HR ⊢
  go_enter Tryz.func17,Tryz.ntmps17
  go_upto_region 1 with fail
  obtain ⟨c0,c1,c2,c3,c4,c5,c6,c7,c8,c9,c10,c11,c12,c13,c14,c15,cf⟩:=HPV.out
  go_wp2_with (first
   | (go_at_call 36;(with_reducible refine (HC.out).mono ?_);rintro e w2 ⟨v,rfl,ho,hb⟩;have HO:=hidden ho;have HB2:=hidden hb;clear ho hb)
   | fail)
  go_ret2
  exact own_be (HO.out.mono HB.out.size) HR.out (HB.out.trans (HB2.out.mono HB.out.size))
 rw [if_neg h33_]
 by_cases h34_:t=34
 ·subst h34_
  rw [if_pos rfl]
  have hed:=(h.a34 rfl).ed
  have hsz:=sz.ed rfl
  obtain ⟨g0,g1⟩:=f34 rfl
  have hel:=hed.len
  dsimp only at hed hsz
  have HED:=hidden hed
  have HEL:=Is.mk hel
  have HPU:=hidden (fun W=>rput_yes none 0 0 [] W (Byt.nil _ _ _ (Nat.zero_le _)) (by omega) (eg*65536) (by omega) 4 (by omega) (by omega))
  rw [List.nil_append,be_exch eg g0 g1,show ((4:Nat):Int)=4 from rfl] at HPU
  have hw2:IntKind.u64.wrap eg=eg:=wraps_u64 _ (by omega) (by omega)
  have hw3:IntKind.u64.wrap (eg*65536)=eg*65536:=wraps_u64 _ (by omega) (by omega)
  have HRG:=hidden (show ∀ z∈exchL eg C.ed,0≤z∧z≤255 from rng_append (by intro z hz;simp at hz;omega) hed.rng)
  have HXL:Is ([eg / 256 % 256,eg % 256,0,0]++C.ed) (exchL eg C.ed):=⟨rfl⟩
  have HBD:=hidden HB.out.drew
  have HKD:=hidden (fun W (hW:Below w1.drew.heap.size w1.drew W)=>HPV.out.below (Below.trans (drew_below ⟨1,rfl⟩) hW))
  have HK0:=hidden (Below.refl w1.drew.heap.size w1.drew)
  clear h f34 f35 f39 f41 sz hed hel
  go_enter Tryz.func17,Tryz.ntmps17
  go_upto_region 1 with fail
  obtain ⟨c0,c1,c2,c3,c4,c5,c6,c7,c8,c9,c10,c11,c12,c13,c14,c15,cf⟩:=HPV.out
  go_upto_region 8 with fail
  go_region_held3 (fun W=>W.cell? ⟨w.heap.size,2,none⟩=some (.int .i64 eg)∧W.cell? ⟨w.heap.size,3,none⟩=some (.slice ed.p ed.n ed.c)) (first | exact ⟨(HKD.out _ HK0.out).c2,(HKD.out _ HK0.out).c3⟩ | exact ⟨(HKD.out _ HK3.out).c2,(HKD.out _ HK3.out).c3⟩ | exact ⟨(HKD.out _ HK2.out).c2,(HKD.out _ HK2.out).c3⟩ | go_keep) (first
   | (go_at_call 20;(with_reducible refine (HPU.out _).mono ?_);rintro e w2 ⟨v2,rfl,ho,hb⟩;have HO2:=hidden ho;have HK2:=hidden hb;clear ho hb)
   | (refine step_append_byt _ (by rfl) _ _ 22 (by rfl) w1.heap.size 5 i0 (.int .u8 0) Tryz.underlying22 hi0 hz0 hz1 hz2 rfl _ _ (by rfl) HO2.out _ _ _ _ _ (by rfl) (HED.out.below (HBD.out.trans (HK2.out.mono HBD.out.size))) (by rfl) (by simp;omega) (by have:=HK2.out.size;simp at this;omega) ?_;intro u3 w3 ho3 hg3;have HO3:=hidden ho3;have HG3:=hidden hg3;have HK3:Hid (Below w1.drew.heap.size w1.drew w3):=hidden (HK2.out.grown hg3 HK2.out.size (fun k hk=>(HO2.out.lt k hk).1));obtain ⟨q3,n3,d3,rfl⟩ : ∃ q n d,u3=.slice q n d:=(by obtain ⟨q,d,e⟩:=HO3.out.form;exact ⟨q,_,d,e⟩);clear ho3 hg3)
   | fail)
  all_goals
   go_wp2
   go_ret2
   exact own_be (HO3.out.mono HB.out.size) HRG.out (HBD.out.trans (HK3.out.mono HBD.out.size))
 rw [if_neg h34_]
 by_cases h35_:t=35
 ·subst h35_
  rw [if_pos (Or.inl rfl)]
  have hed:=(h.a35 rfl).id
  have hsz:=sz.id (Or.inl rfl)
  obtain ⟨g0,g1⟩:=f35 (Or.inl rfl)
  have hel:=hed.len
  dsimp only at hed hsz
  have HED:=hidden (fun W (hW:Below w1.heap.size w1 W)=>(hed.below HB.out).below hW)
  have hw2:IntKind.u8.wrap ik=ik:=by rw [IntKind.wrap_u8];omega
  have HRG:=hidden (show ∀ z∈headL ik C.id,0≤z∧z≤255 from rng_append (by intro z hz;simp at hz;omega) hed.rng)
  have HXL:Hid ([ik,0,0,0]++C.id=headL ik C.id):=hidden (by show _=[_,_,_,_]++_;rw [Int.emod_eq_of_lt g0 (by omega)])
  have HO4:=hidden (own_four w1 w.heap.size HB.out.size ik 0 0 0)
  have HB4:=hidden ((Below.refl w1.heap.size w1).alloc (Nat.le_refl _) (.cells #[.int .u8 ik,.int .u8 0,.int .u8 0,.int .u8 0] 5))
  have e5:=(HPV.out.below HB4.out).c5
  have hlt:w.heap.size<w1.heap.size:=by rw [←hw1];simp only [World.alloc,Array.size_push];omega
  have hne:w.heap.size≠w1.heap.size:=Nat.ne_of_lt hlt
  clear h f34 f35 f39 f41 sz hed hel
  go_enter Tryz.func17,Tryz.ntmps17
  go_upto_region 1 with fail
  obtain ⟨c0,c1,c2,c3,c4,c5,c6,c7,c8,c9,c10,c11,c12,c13,c14,c15,cf⟩:=HPV.out
  go_wp2_with (first
   | (at_builtin;refine wpList_append_byt _ rfl _ _ 22 rfl w.heap.size 5 i0 (.int .u8 0) Tryz.underlying22 hi0 hz0 hz1 hz2 rfl _ _ rfl HO4.out _ _ _ _ _ rfl (HED.out _ HB4.out) rfl ?c2 ?c3 ?_)
   | fail)
  case c2=>first | omega | (simp;omega)
  case c3=>have:=HB.out.size;first | omega | (simp only [World.alloc,Array.size_push];omega)
  intro u3 w3 ho3 hg3
  have HO3:=hidden (show Own w3 w.heap.size 5 u3 (headL ik C.id) by rw [←HXL.out];exact ho3)
  have HB3:=hidden ((HB.out.alloc HB.out.size _).grown hg3 (HB.out.alloc HB.out.size _).size (fun k hk=>(HO4.out.lt k hk).1))
  obtain ⟨q3,n3,d3,rfl⟩ : ∃ q n d,u3=.slice q n d:=(by obtain ⟨q,d,e⟩:=ho3.form;exact ⟨q,_,d,e⟩)
  clear ho3 hg3
  go_wp2
  go_ret2
  exact own_be HO3.out HRG.out HB3.out
 by_cases h36_:t=36
 ·subst h36_
  rw [if_pos (Or.inr rfl)]
  have hed:=(h.a36 rfl).id
  have hsz:=sz.id (Or.inr rfl)
  obtain ⟨g0,g1⟩:=f35 (Or.inr rfl)
  have hel:=hed.len
  dsimp only at hed hsz
  have HED:=hidden (fun W (hW:Below w1.heap.size w1 W)=>(hed.below HB.out).below hW)
  have hw2:IntKind.u8.wrap ik=ik:=by rw [IntKind.wrap_u8];omega
  have HRG:=hidden (show ∀ z∈headL ik C.id,0≤z∧z≤255 from rng_append (by intro z hz;simp at hz;omega) hed.rng)
  have HXL:Hid ([ik,0,0,0]++C.id=headL ik C.id):=hidden (by show _=[_,_,_,_]++_;rw [Int.emod_eq_of_lt g0 (by omega)])
  have HO4:=hidden (own_four w1 w.heap.size HB.out.size ik 0 0 0)
  have HB4:=hidden ((Below.refl w1.heap.size w1).alloc (Nat.le_refl _) (.cells #[.int .u8 ik,.int .u8 0,.int .u8 0,.int .u8 0] 5))
  have e5:=(HPV.out.below HB4.out).c5
  have hlt:w.heap.size<w1.heap.size:=by rw [←hw1];simp only [World.alloc,Array.size_push];omega
  have hne:w.heap.size≠w1.heap.size:=Nat.ne_of_lt hlt
  clear h f34 f35 f39 f41 sz hed hel
  go_enter Tryz.func17,Tryz.ntmps17
  go_upto_region 1 with fail
  obtain ⟨c0,c1,c2,c3,c4,c5,c6,c7,c8,c9,c10,c11,c12,c13,c14,c15,cf⟩:=HPV.out
  go_wp2_with (first
   | (at_builtin;refine wpList_append_byt _ rfl _ _ 22 rfl w.heap.size 5 i0 (.int .u8 0) Tryz.underlying22 hi0 hz0 hz1 hz2 rfl _ _ rfl HO4.out _ _ _ _ _ rfl (HED.out _ HB4.out) rfl ?c2 ?c3 ?_)
   | fail)
  case c2=>first | omega | (simp;omega)
  case c3=>have:=HB.out.size;first | omega | (simp only [World.alloc,Array.size_push];omega)
  intro u3 w3 ho3 hg3
  have HO3:=hidden (show Own w3 w.heap.size 5 u3 (headL ik C.id) by rw [←HXL.out];exact ho3)
  have HB3:=hidden ((HB.out.alloc HB.out.size _).grown hg3 (HB.out.alloc HB.out.size _).size (fun k hk=>(HO4.out.lt k hk).1))
  obtain ⟨q3,n3,d3,rfl⟩ : ∃ q n d,u3=.slice q n d:=(by obtain ⟨q,d,e⟩:=ho3.form;exact ⟨q,_,d,e⟩)
  clear ho3 hg3
  go_wp2
  go_ret2
  exact own_be HO3.out HRG.out HB3.out
 rw [if_neg (by omega)]
 by_cases h39_:t=39
 ·subst h39_
  rw [if_pos rfl]
  have hed:=(h.a39 rfl).ad
  have hsz:=sz.ad rfl
  obtain ⟨g0,g1⟩:=f39 rfl
  have hel:=hed.len
  dsimp only at hed hsz
  have HED:=hidden (fun W (hW:Below w1.heap.size w1 W)=>(hed.below HB.out).below hW)
  have hw2:IntKind.u8.wrap am=am:=by rw [IntKind.wrap_u8];omega
  have HRG:=hidden (show ∀ z∈headL am C.ad,0≤z∧z≤255 from rng_append (by intro z hz;simp at hz;omega) hed.rng)
  have HXL:Hid ([am,0,0,0]++C.ad=headL am C.ad):=hidden (by show _=[_,_,_,_]++_;rw [Int.emod_eq_of_lt g0 (by omega)])
  have HO4:=hidden (own_four w1 w.heap.size HB.out.size am 0 0 0)
  have HB4:=hidden ((Below.refl w1.heap.size w1).alloc (Nat.le_refl _) (.cells #[.int .u8 am,.int .u8 0,.int .u8 0,.int .u8 0] 5))
  have e5:=(HPV.out.below HB4.out).c7
  have hlt:w.heap.size<w1.heap.size:=by rw [←hw1];simp only [World.alloc,Array.size_push];omega
  have hne:w.heap.size≠w1.heap.size:=Nat.ne_of_lt hlt
  clear h f34 f35 f39 f41 sz hed hel
  go_enter Tryz.func17,Tryz.ntmps17
  go_upto_region 1 with fail
  obtain ⟨c0,c1,c2,c3,c4,c5,c6,c7,c8,c9,c10,c11,c12,c13,c14,c15,cf⟩:=HPV.out
  go_wp2_with (first
   | (at_builtin;refine wpList_append_byt _ rfl _ _ 22 rfl w.heap.size 5 i0 (.int .u8 0) Tryz.underlying22 hi0 hz0 hz1 hz2 rfl _ _ rfl HO4.out _ _ _ _ _ rfl (HED.out _ HB4.out) rfl ?c2 ?c3 ?_)
   | fail)
  case c2=>first | omega | (simp;omega)
  case c3=>have:=HB.out.size;first | omega | (simp only [World.alloc,Array.size_push];omega)
  intro u3 w3 ho3 hg3
  have HO3:=hidden (show Own w3 w.heap.size 5 u3 (headL am C.ad) by rw [←HXL.out];exact ho3)
  have HB3:=hidden ((HB.out.alloc HB.out.size _).grown hg3 (HB.out.alloc HB.out.size _).size (fun k hk=>(HO4.out.lt k hk).1))
  obtain ⟨q3,n3,d3,rfl⟩ : ∃ q n d,u3=.slice q n d:=(by obtain ⟨q,d,e⟩:=ho3.form;exact ⟨q,_,d,e⟩)
  clear ho3 hg3
  go_wp2
  go_ret2
  exact own_be HO3.out HRG.out HB3.out
 rw [if_neg h39_]
 by_cases h41_:t=41
 ·subst h41_
  rw [if_pos rfl]
  have hns:=(h.a41 rfl).ns
  have hnd:=(h.a41 rfl).nd
  have hsn:=sz.ns rfl
  have hsd:=sz.nd rfl
  obtain ⟨p0,p1,q0,q1⟩:=f41 rfl
  have hel:=hns.len
  have hel':=hnd.len
  dsimp only at hns hnd hsn hsd hel hel'
  by_cases h3:3<np
  ·rw [if_pos h3]
   clear h f34 f35 f39 f41 sz hns hnd hel hel'
   go_enter Tryz.func17,Tryz.ntmps17
   go_upto_region 1 with fail
   obtain ⟨c0,c1,c2,c3,c4,c5,c6,c7,c8,c9,c10,c11,c12,c13,c14,c15,cf⟩:=HPV.out
   go_wp2
   go_ret2
   exact ⟨none,0,rfl,Frs.nil _ _ _ _ (by decide),HB.out⟩
  rw [if_neg h3]
  have HW:=hidden (fun W=>rwidth_same np W)
  obtain ⟨ZZ,hZZ⟩ : ∃ ZZ,widthN np=ZZ:=⟨_,rfl⟩
  have hz0_:0≤ZZ∧ZZ≤4:=by rw [←hZZ];unfold widthN;split<;>omega
  rw [hZZ] at HW ⊢
  clear hZZ
  by_cases hnn:(ns.n:Int)≠ZZ
  ·rw [if_pos hnn]
   have hb_:((ns.n:Int) != ZZ)=true:=by simpa using hnn
   clear h f34 f35 f39 f41 sz hns hnd hel hel' hnn
   go_enter Tryz.func17,Tryz.ntmps17
   go_upto_region 1 with fail
   obtain ⟨c0,c1,c2,c3,c4,c5,c6,c7,c8,c9,c10,c11,c12,c13,c14,c15,cf⟩:=HPV.out
   go_upto_region 17 with fail
   go_quiet ((go_at_call 38;(with_reducible exact Calls.quiet_of_same (HW.out _))))
   go_wp2
   go_ret2
   exact ⟨none,0,rfl,Frs.nil _ _ _ _ (by decide),HB.out.trans (drew_below ⟨_,rfl⟩)⟩
  rw [if_neg hnn]
  have hne:(ns.n:Int)=ZZ:=by omega
  have hb_:((ns.n:Int) != ZZ)=false:=by simpa using hne
  have hn4:(ns.n:Int)≤4:=by omega
  have HNS:=hidden (hns.below HB.out)
  have HND:=hidden (hnd.below HB.out)
  have hw2:IntKind.u8.wrap np=np:=by rw [IntKind.wrap_u8];omega
  have hw3:IntKind.u8.wrap (ns.n:Int)=(ns.n:Int):=by rw [IntKind.wrap_u8];omega
  have hw4:IntKind.u64.wrap nt=nt:=wraps_u64 _ (by omega) (by omega)
  have HRG:=hidden (show ∀ z∈noteL np nt C.ns C.nd,0≤z∧z≤255 from rng_append (by intro z hz;simp at hz;omega) (rng_append hns.rng hnd.rng))
  have HXL:Hid (([np,(ns.n:Int)]++be 2 nt)++C.ns++C.nd=noteL np nt C.ns C.nd):=hidden (by
   have e1:np % 256=np:=Int.emod_eq_of_lt p0 (by omega)
   have e2:(ns.n:Int) % 256=ns.n:=Int.emod_eq_of_lt (by omega) (by omega)
   rw [be_two nt q0 q1,noteL,hel,e1,e2]
   simp)
  have HPU:=hidden (fun W p c (h:Byt W p 2 c [np,(ns.n:Int)])=>rput_yes p 2 c _ W h (by omega) nt (by omega) 2 (by omega) (by omega))
  rw [show ((2:Nat):Int)=2 from rfl] at HPU
  have hX2l:([np,(ns.n:Int)]++be 2 nt).length=4:=rfl
  generalize [np,(ns.n:Int)]++be 2 nt=X2 at *
  have HL2:=Is.mk hX2l
  clear hX2l
  have hlt:w.heap.size<w1.heap.size:=by rw [←hw1];simp only [World.alloc,Array.size_push];omega
  have hne2:w.heap.size≠w1.heap.size:=Nat.ne_of_lt hlt
  have HELS:=Is.mk hel
  have HELD:=Is.mk hel'
  clear h f34 f35 f39 f41 sz hns hnd hel hel' hne hnn
  go_enter Tryz.func17,Tryz.ntmps17
  go_upto_region 1 with fail
  obtain ⟨c0,c1,c2,c3,c4,c5,c6,c7,c8,c9,c10,c11,c12,c13,c14,c15,cf⟩:=HPV.out
  go_upto_region 17 with fail
  go_quiet ((go_at_call 38;(with_reducible exact Calls.quiet_of_same (HW.out _))))
  go_upto_region 19 with fail
  generalize hwq:World.drewN w1 _=wq
  have HQ:=hidden (show Below w1.heap.size w1 wq by rw [←hwq];exact drew_below ⟨_,rfl⟩)
  have hsq:wq.heap.size=w1.heap.size:=by rw [←hwq];rfl
  have hne3:w.heap.size≠wq.heap.size:=by rw [hsq];exact hne2
  have hlt3:w.heap.size<wq.heap.size:=by rw [hsq];exact hlt
  have HSQ:=hidden hsq
  clear hwq c0 c1 c2 c3 c4 c5 c6 c7 c8 c9 c10 c11 c12 c13 c14 c15 cf hsq hne2 hlt
  have HPQ:=hidden (HPV.out.below HQ.out)
  have c8:=HPQ.out.c8
  have c9:=HPQ.out.c9
  have c10:=HPQ.out.c10
  have HBY:=hidden (byt_two6 wq np (ns.n:Int) ⟨p0,p1⟩ (by omega))
  have HQA:=hidden (HQ.out.alloc (Nat.le_of_eq HSQ.out.symm) (.cells #[.int .u8 np,.int .u8 (ns.n:Int)] 5))
  have d10:=(HPV.out.below HQA.out).c10
  have HKD:=hidden (fun W (hW:Below w1.heap.size w1 W)=>HPV.out.below hW)
  go_upto_region 20 with (first
   | (go_at_call 20;(with_reducible refine (HPU.out _ _ _ HBY.out).mono ?_);rintro e w2 ⟨v2,rfl,ho,hb⟩;have HO2:=hidden ((ho.mono (by have:=HQA.out.size;exact this)).drew);have HK2:=hidden (HQA.out.trans (hb.mono HQA.out.size) |>.trans (drew_below (B:=w1.heap.size) (w:=w2) (w':=w2.drew) ⟨1,rfl⟩));clear ho hb)
   | fail)
  go_region_held3 (fun W=>W.cell? ⟨w.heap.size,9,none⟩=some (.slice ns.p ns.n ns.c)∧W.cell? ⟨w.heap.size,11,none⟩=some (.slice nd.p nd.n nd.c)) (first | exact ⟨(HKD.out _ HK2.out).c9,(HKD.out _ HK2.out).c11⟩ | exact ⟨(HKD.out _ HK3.out).c9,(HKD.out _ HK3.out).c11⟩ | exact ⟨(HKD.out _ HK5.out).c9,(HKD.out _ HK5.out).c11⟩ | go_keep) (first
   | (refine step_append_byt _ (by rfl) _ _ 22 (by rfl) w1.heap.size 5 i0 (.int .u8 0) Tryz.underlying22 hi0 hz0 hz1 hz2 rfl _ _ (by rfl) HO2.out _ _ _ _ _ (by rfl) (HNS.out.below HK2.out) (by rfl) (by have:=HL2.eq;omega) HK2.out.size ?_;intro u3 w3 ho3 hg3;have HO3:=hidden ho3;have HK3:=hidden (HK2.out.grown hg3 HK2.out.size (fun k hk=>(HO2.out.lt k hk).1));clear ho3 hg3)
   | (refine step_append_byt _ (by rfl) _ _ 22 (by rfl) w1.heap.size 5 i0 (.int .u8 0) Tryz.underlying22 hi0 hz0 hz1 hz2 rfl _ _ (by rfl) HO3.out _ _ _ _ _ (by rfl) (HND.out.below HK3.out) (by rfl) (by rw [List.length_append,HL2.eq,HELS.eq];omega) HK3.out.size ?_;intro u5 w5 ho5 hg5;have HO5:=hidden ho5;have HK5:=hidden (HK3.out.grown hg5 HK3.out.size (fun k hk=>(HO3.out.lt k hk).1));obtain ⟨q3,n3,d3,rfl⟩ : ∃ q n d,u5=.slice q n d:=(by obtain ⟨q,d,e⟩:=ho5.form;exact ⟨q,_,d,e⟩);clear ho5 hg5)
   | fail)
  all_goals
   go_wp2
   go_ret2
   exact own_be ((show Own _ _ _ _ (noteL np nt C.ns C.nd) by rw [←HXL.out];exact HO5.out).mono HB.out.size) HRG.out (HB.out.trans (HK5.out.mono HB.out.size))
 rw [if_neg h41_]
 by_cases h44_:t=44
 ·subst h44_
  rw [if_pos (Or.inl rfl)]
  have hse:=(h.a44 rfl).se
  have hr:=buildS_rng C.se
  have HC:=hidden (rbuild5_any se.p se.n se.c C.se w1 (hse.below HB.out) (buildS C.se).1 (buildS C.se).2 rfl)
  generalize buildS C.se=R at *
  obtain ⟨L,E⟩:=R
  have HR:=hidden hr
  clear h hse hr f34 f35 f39 f41 sz
  dsimp only at HC HR ⊢
  go_enter Tryz.func17,Tryz.ntmps17
  go_upto_region 1 with fail
  obtain ⟨c0,c1,c2,c3,c4,c5,c6,c7,c8,c9,c10,c11,c12,c13,c14,c15,cf⟩:=HPV.out
  go_wp2_with (first
   | (go_at_call 37;(with_reducible refine (HC.out).mono ?_);rintro e w2 ⟨v,rfl,ho,hb⟩;have HO:=hidden ho;have HB2:=hidden hb;clear ho hb)
   | fail)
  go_ret2
  exact own_be (HO.out.mono HB.out.size) HR.out (HB.out.trans (HB2.out.mono HB.out.size))
 by_cases h45_:t=45
 ·subst h45_
  rw [if_pos (Or.inr rfl)]
  have hse:=(h.a45 rfl).se
  have hr:=buildS_rng C.se
  have HC:=hidden (rbuild5_any se.p se.n se.c C.se w1 (hse.below HB.out) (buildS C.se).1 (buildS C.se).2 rfl)
  generalize buildS C.se=R at *
  obtain ⟨L,E⟩:=R
  have HR:=hidden hr
  clear h hse hr f34 f35 f39 f41 sz
  dsimp only at HC HR ⊢
  go_enter Tryz.func17,Tryz.ntmps17
  go_upto_region 1 with fail
  obtain ⟨c0,c1,c2,c3,c4,c5,c6,c7,c8,c9,c10,c11,c12,c13,c14,c15,cf⟩:=HPV.out
  go_wp2_with (first
   | (go_at_call 37;(with_reducible refine (HC.out).mono ?_);rintro e w2 ⟨v,rfl,ho,hb⟩;have HO:=hidden ho;have HB2:=hidden hb;clear ho hb)
   | fail)
  go_ret2
  exact own_be (HO.out.mono HB.out.size) HR.out (HB.out.trans (HB2.out.mono HB.out.size))
 rw [if_neg (by omega)]
 have hda:=(h.aX h33_ h34_ h35_ h36_ h39_ h41_ h42 h44_ h45_).da
 have hsz:=sz.da h33_ h34_ h35_ h36_ h39_ h41_ h42 h44_ h45_
 have hel:=hda.len
 dsimp only at hda hsz
 have HED:=hidden (hda.below HB.out)
 have HRG:=hidden hda.rng
 have e33:(t == 33)=false:=by simpa using h33_
 clear h f34 f35 f39 f41 sz hel hda
 go_enter Tryz.func17,Tryz.ntmps17
 go_upto_region 1 with fail
 obtain ⟨c0,c1,c2,c3,c4,c5,c6,c7,c8,c9,c10,c11,c12,c13,c14,c15,cf⟩:=HPV.out
 go_wp2_with (first
  | (at_builtin;refine wpList_append_byt _ rfl _ _ 22 rfl w.heap.size 5 i0 (.int .u8 0) Tryz.underlying22 hi0 hz0 hz1 hz2 rfl _ _ rfl (Own.nil _ _ _) _ _ _ _ _ rfl HED.out rfl ?c2 ?c3 ?_)
  | fail)
 case c2=>first | omega | (simp;omega)
 case c3=>exact HB.out.size
 intro u3 w3 ho3 hg3
 have HO3:=hidden (show Own w3 w.heap.size 5 u3 C.da from ho3)
 have HB3:=hidden (HB.out.grown hg3 HB.out.size (nob _))
 obtain ⟨q3,n3,d3,rfl⟩ : ∃ q n d,u3=.slice q n d:=(by obtain ⟨q,d,e⟩:=ho3.form;exact ⟨q,_,d,e⟩)
 clear ho3 hg3
 go_wp2
 go_ret2
 exact own_be HO3.out HRG.out HB3.out
end Go.Proofs.YtgpigjoonhghhaaGreat

namespace Go.Proofs.YtgpigjoonhghhaaGreat
open Go.RowKit
set_option linter.unusedVariables false
def KindOk (z:Int):Prop:=33≤z∧z≤45∧z≠38
theorem mkpay_kind (W w:World) (k:Nat) (h:Cod W w k) (z:Int) (hz:KindOk z):Calls Tryz.prog 15 #[.pointer (some ⟨k,0,none⟩),.int .i64 z] w (MadePv W w k z):=by
 obtain ⟨h1,h2,h3⟩:=hz
 have:z=33∨z=34∨z=35∨z=36∨z=37∨z=39∨z=40∨z=41∨z=42∨z=43∨z=44∨z=45:=by omega
 rcases this with rfl | rfl | rfl | rfl | rfl | rfl | rfl | rfl | rfl | rfl | rfl | rfl
 ·exact mkpay33 W w k h
 ·exact mkpay34 W w k h
 ·exact mkpay35 W w k h
 ·exact mkpay36 W w k h
 ·exact mkpay37 W w k h
 ·exact mkpay39 W w k h
 ·exact mkpay40 W w k h
 ·exact mkpay41 W w k h
 ·exact mkpay42 W w k h
 ·exact mkpay43 W w k h
 ·exact mkpay44 W w k h
 ·exact mkpay45 W w k h
theorem rowIn_map (L:List Int):KIn.row L=L.map (Value.int .i64):=by
 induction L with
 | nil=>rfl
 | cons y L ih=>rw [KIn.row_cons,ih];rfl
theorem row_ints (w:World) (base:Nat) (l:List Int) (n:Nat) (hn:l.length=n) (hb:base≤w.heap.size) (h0:n≤100) (hr : ∀ x∈l,-9223372036854775808≤x∧x≤9223372036854775807):RowG KIn NIn (w.alloc (.cells (l.map (Value.int .i64)).toArray 3)) base (.slice (some ⟨w.heap.size,0,none⟩) n n) l:=by
 subst hn
 have hrow:=rowIn_map l
 refine ⟨⟨by rw [hrow];simp [KIn],.inr ⟨w.heap.size,l.length,_,rfl,hb,heap_alloc_new w _,Nat.le_refl _,by unfold maxLen;omega,by simp [KIn],?_⟩⟩,hr⟩
 rw [hrow]
 simp [KIn,←List.map_take]
def TypeL (w:World) (base:Nat) (v:Value) (l:List Int):Prop :=
 RowG KIn NIn w base v l∨∃ b o n,v=.slice (some ⟨b,o,none⟩) n n∧0<n∧base≤b∧Its w (some ⟨b,o,none⟩) n n l
theorem TypeL.its {w:World} {base:Nat} {v:Value} {l:List Int} (h:TypeL w base v l) : ∃ p c,v=.slice p l.length c∧Its w p l.length c l∧∀ b,v.ownBlock=some b→base≤b:=by
 rcases h with h | ⟨b,o,n,rfl,hn,hb,hi⟩
 ·obtain ⟨p,c,rfl,hi⟩:=h.its rfl
  exact ⟨p,c,rfl,hi,fun b hb=>(h.lt b hb).1⟩
 ·have:=hi.len
  subst this
  exact ⟨_,_,rfl,hi,fun b' hb'=>by simp [Value.ownBlock] at hb';omega⟩
theorem TypeL.grown {w w':World} {base k:Nat} {v:Value} {l:List Int} (h:TypeL w base v l) (hg:w.grownBy w' (some k)) (hk:k<base):TypeL w' base v l:=by
 rcases h with h | ⟨b,o,n,rfl,hn,hb,hi⟩
 ·exact .inl (h.low hg hk)
 ·refine .inr ⟨b,o,n,rfl,hn,hb,hi.len,hi.cap,hi.big,hi.rng,fun h0=>?_⟩
  obtain ⟨b',o',e,hc⟩:=hi.mem h0
  cases e
  exact ⟨b,o,rfl,fun i hi=>hg.cell (hc i hi) (by simp;omega)⟩
theorem TypeL.below {w w':World} {base:Nat} {v:Value} {l:List Int} (h:TypeL w base v l) (hb:Below w.heap.size w w'):TypeL w' base v l:=by
 rcases h with h | ⟨b,o,n,rfl,hn,hbb,hi⟩
 ·exact .inl (h.below hb)
 ·exact .inr ⟨b,o,n,rfl,hn,hbb,hi.below hb⟩
section
variable {P:Program} {w:World}
theorem run_append_types (t ty:TypeId) (hk:KnownR P KIn t 8) (base:Nat) (v:Value) (l:List Int) (h:TypeL w base v l) (p:Option Addr) (x:Int) (hs:SrcG KIn w p 1 [x]) (hx : -9223372036854775808≤x∧x≤9223372036854775807) (hl:l.length≤1000) (hbase:base≤w.heap.size) :
  ∃ v' w',(Builtin.append_ #[t,t] ty #[v,.slice p 1 1]).run P w=.ok v' w'∧RowG KIn NIn w' base v' (l++[x])∧w.grownBy w' v.ownBlock:=by
 rcases h with h | ⟨b,o,n,rfl,hn,hb,hi⟩
 ·exact run_append_g hk (by simp [NIn]) w base ty v l h p 1 1 [x] hs (fun y hy=>by rw [List.mem_singleton.1 hy];exact hx) (by unfold maxLen;omega) (by omega) hbase
 ·obtain ⟨i0,z,hi0,hz0,hz1,hz2,hz3⟩:=hk.info
  obtain ⟨ad,rfl,hc⟩:=hs.2 (by omega)
  have hlen:=hi.len
  have hsrc : ∀ j u,(l.map (Value.int .i64))[j]?=some u→w.cell? ((⟨b,o,none⟩:Addr).add j)=some u:=fun j u hj=>by
   obtain ⟨b',o',e,hcc⟩:=hi.mem hn
   cases e
   have hjl:j<l.length:=by have:=(List.getElem?_eq_some_iff.1 hj).1;simpa using this
   rw [WideShapes.add_plain,hcc j (by omega)]
   simp [List.getElem?_eq_getElem hjl] at hj
   rw [List.getD_eq_getElem?_getD,List.getElem?_eq_getElem hjl,←hj]
   rfl
  obtain ⟨v',w',hrun,r1,r2⟩:=run_append_arg_grows (P:=P) w t ty KIn.e i0 z 1 8 hk.under hi0 hz0 hz1 hz2 hz3 (by decide) ⟨b,o,none⟩ n n (l.map (Value.int .i64)) (by simp [hlen]) hsrc ad 1 1 [.int .i64 x] (by simp) hc (by omega) (by unfold maxLen;omega) (by omega)
  refine ⟨v',w',hrun,?_,?_⟩
  ·have hrow:=rowIn_map
   have:=RowG.mono (K:=KIn) (N:=NIn) (base':=base) (base:=w.heap.size) (w:=w') (v:=v') (l:=l++[x]) ⟨by
    rw [hrow,List.map_append,List.length_append,hlen]
    exact r1,fun y hy=>by
    rcases List.mem_append.1 hy with hy | hy
    ·exact hi.rng y hy
    ·rw [List.mem_singleton.1 hy];exact hx⟩ hbase
   exact this
  ·exact ⟨r2.os,r2.tape,r2.output,r2.size,fun j hj _=>r2.block j hj (by simp)⟩
theorem wpList_append_types {ops:Array Oper} {rest:List Oper} {o:Oper} {a:Act} {Q:Exit→Act→World→Prop} (hgd:o.guard=none) (s y:Operand) (t:TypeId)
  (ho:o.op=.call { callee:=.builtin .append,args:=#[s,y],argTypes:=#[t,t] })
  (hk:KnownR P KIn t 8) (base:Nat) (v:Value) (l:List Int) (hs:a.eval s=v) (h:TypeL w base v l) (p:Option Addr) (x:Int) (hy:a.eval y=.slice p 1 1) (hsrc:SrcG KIn w p 1 [x]) (hx : -9223372036854775808≤x∧x≤9223372036854775807) (hl:l.length≤1000) (hbase:base≤w.heap.size)
  (hK : ∀ v' w',Hid (RowG KIn NIn w' base v' (l++[x]))→Hid (w.grownBy w' v.ownBlock)→wpList P ops Q rest (a.put o.dst v') w'):wpList P ops Q (o :: rest) a w:=by
 refine wpList_plain hgd fun K hK'=>?_
 obtain ⟨v',w',hr,h2,h3⟩:=run_append_types (P:=P) t o.type hk base v l h p x hsrc hx hl hbase
 unfold Oper.wp execOp
 simp only [ho,resolve,invoke,builtin,Sem.run_bind,Sem.run_pure,Result.andThen_ok,List.map_toArray,List.map_cons,List.map_nil,hs,hy,hr]
 exact hK' _ _ (hK v' w' h2 h3)
end
structure MIn (w:World) (g:Nat) (i r nx x f m:Int) (v:Value):Prop where
 c0:w.cell? ⟨g,0,none⟩=some (.int .u64 i)
 c1:w.cell? ⟨g,1,none⟩=some (.int .u64 r)
 c2:w.cell? ⟨g,2,none⟩=some (.int .i64 nx)
 c3:w.cell? ⟨g,3,none⟩=some (.int .i64 x)
 c4:w.cell? ⟨g,4,none⟩=some (.int .i64 f)
 c5:w.cell? ⟨g,5,none⟩=some (.int .u32 m)
 c6:w.cell? ⟨g,6,none⟩=some v
 fr : ∀ j,w.frozen? ⟨g,j,none⟩=false
theorem MIn.keep {w w':World} {g:Nat} {i r nx x f m:Int} {v:Value} (h:MIn w g i r nx x f m v) (hs:w'.heap[g]?=w.heap[g]?):MIn w' g i r nx x f m v:=by
 have hc : ∀ j,w'.cell? ⟨g,j,none⟩=w.cell? ⟨g,j,none⟩:=fun j=>World.cell?_of_block (a:=⟨g,j,none⟩) hs
 exact ⟨(hc _).trans h.c0,(hc _).trans h.c1,(hc _).trans h.c2,(hc _).trans h.c3,(hc _).trans h.c4,(hc _).trans h.c5,(hc _).trans h.c6,fun j=>(World.frozen?_of_block (a:=⟨g,j,none⟩) hs).trans (h.fr j)⟩
theorem MIn.lt {w:World} {g:Nat} {i r nx x f m:Int} {v:Value} (h:MIn w g i r nx x f m v):g<w.heap.size:=World.block_lt_of_cell? w _ h.c0
theorem MIn.below {w w':World} {g:Nat} {i r nx x f m:Int} {v:Value} (h:MIn w g i r nx x f m v) (hb:Below w.heap.size w w'):MIn w' g i r nx x f m v:=h.keep (hb.block g h.lt)
theorem MIn.grown {w w':World} {g:Nat} {i r nx x f m:Int} {v:Value} {row:Option Nat} (h:MIn w g i r nx x f m v) (hg:w.grownBy w' row) (hne:some g≠row):MIn w' g i r nx x f m v:=h.keep (hg.block g h.lt hne)
theorem Its.grownOff {w w':World} {p:Option Addr} {n c:Nat} {xs:List Int} {row:Option Nat} (h:Its w p n c xs) (hg:w.grownBy w' row) (hne : ∀ b o,p=some ⟨b,o,none⟩→some b≠row):Its w' p n c xs :=
 ⟨h.len,h.cap,h.big,h.rng,fun h0=>by
  obtain ⟨b,o,e,hc⟩:=h.mem h0
  exact ⟨b,o,e,fun i hi=>hg.cell (hc i hi) (hne b o e)⟩⟩
def NTv:NestR Pv where
 ts:=[]
 ok _ _ _:=True
 keep _ _ _:=trivial
 mono _ _:=trivial
theorem Tryz.infoPv:(Tryz.prog.info? 49).map (fun i=>(i.zero,i.size,i.bytes))=some (some (.agg #[.int .i64 0,.slice none 0 0,.int .i64 0,.slice none 0 0,.int .i64 0,.slice none 0 0,.int .i64 0,.slice none 0 0,.int .i64 0,.slice none 0 0,.int .i64 0,.slice none 0 0,.int .i64 0,.slice none 0 0,.slice none 0 0,.slice none 0 0]),16,272):=by kernel_rfl
theorem knownPv:KnownR Tryz.prog KPv 30 272:=by
 refine ⟨Tryz.underlying30,?_⟩
 obtain ⟨i0,hi,hz0,hz1,hz2⟩:=info_parts Tryz.infoPv
 exact ⟨i0,_,hi,hz0,hz1,hz2,rfl⟩
theorem srcPv (w:World) (x:Pv) (T:TypeId):SrcG KPv (w.alloc (.cells #[.int .i64 x.t,.slice x.pr.p x.pr.n x.pr.c,.int .i64 x.eg,.slice x.ed.p x.ed.n x.ed.c,.int .i64 x.ik,.slice x.id.p x.id.n x.id.c,.int .i64 x.am,.slice x.ad.p x.ad.n x.ad.c,.int .i64 x.np,.slice x.ns.p x.ns.n x.ns.c,.int .i64 x.nt,.slice x.nd.p x.nd.n x.nd.c,.int .i64 x.dp,.slice x.ds.p x.ds.n x.ds.c,.slice x.se.p x.se.n x.se.c,.slice x.da.p x.da.n x.da.c] T)) (some ⟨w.heap.size,0,none⟩) 1 [x]:=SrcG.new KPv w [x] T
def ElemOk (wr:World) (base0:Nat) (v:Value) (x:Pv):Prop :=
 ∃ (w0:World) (base:Nat) (C:Pc),PvKp w0 base x C∧Kpt w0 wr base∧w0.heap.size≤wr.heap.size∧base0≤base∧(∀ q,v.ownBlock=some q→q<base∨w0.heap.size≤q)∧NumOk x∧Vld x C∧C.pr.length≤2∧KindOk x.t
theorem ElemOk.step {wr wy:World} {base0:Nat} {v:Value} {x:Pv} {row:Option Nat} (h:ElemOk wr base0 v x) (hg:wr.grownBy wy row) (hr : ∀ q,row=some q→q<base0∨v.ownBlock=some q):ElemOk wy base0 v x:=by
 obtain ⟨w0,base,C,h1,h2,h3,h4,h5,h6⟩:=h
 refine ⟨w0,base,C,h1,fun a u ha hc=>?_,Nat.le_trans h3 hg.size,h4,h5,h6⟩
 refine hg.cell (h2 a u ha hc) (fun e=>?_)
 have hlt:=World.block_lt_of_cell? w0 a hc
 rcases hr _ e.symm with h | h
 ·omega
 ·rcases h5 _ h with h | h<;>omega
theorem ElemOk.app {wa wy:World} {base0:Nat} {v v':Value} {x:Pv} (h:ElemOk wa base0 v x) (hg:wa.grownBy wy v.ownBlock) (hq : ∀ q,v'.ownBlock=some q→v.ownBlock=some q∨wa.heap.size≤q):ElemOk wy base0 v' x:=by
 obtain ⟨w0,base,C,h1,h2,h3,h4,h5,h6⟩:=h.step hg (fun q e=>.inr e)
 obtain ⟨w0',base',C',g1,g2,g3,g4,g5,g6⟩:=h
 have hk:Kpt w0' wy base':=fun a u ha hc=>by
  refine hg.cell (g2 a u ha hc) (fun e=>?_)
  have hlt:=World.block_lt_of_cell? w0' a hc
  rcases g5 _ e.symm with h | h<;>omega
 exact ⟨w0',base',C',g1,hk,Nat.le_trans g3 hg.size,g4,fun q hv=>(hq q hv).elim (g5 q) (fun h=>.inr (by omega)),g6⟩
theorem ElemOk.note {wr w':World} {base0:Nat} {v:Value} {x:Pv} (h:ElemOk wr base0 v x) (hk:Kpt wr w' base0):NoteOk w' x:=by
 obtain ⟨w0,base,C,h1,h2,h3,h4,h5,h6,-,-,h7⟩:=h
 have hr:=h1 w' (h2.trans (hk.mono h4))
 obtain ⟨n1,n2,n3,n4⟩:=h6
 obtain ⟨k1,k2,k3⟩:=h7
 exact ⟨⟨by omega,by omega⟩,fun _=>⟨_,hr.ns⟩,fun _=>⟨_,hr.nd⟩,fun _=>by omega,fun _=>by omega⟩
structure MSt (W w:World) (k B:Nat) (i r nx x f m:Int) (v:Value) (wr:World):Prop where
 cod:Cod W wr k
 gr:w.grownBy wr (some k)
 a:MIn wr w.heap.size 0 0 0 0 0 0 (.slice none 0 0)
 b:MIn wr B i r nx x f m v
 ge:B+1≤wr.heap.size
theorem MSt.grown {W w wr wy:World} {k B:Nat} {i r nx x f m:Int} {v:Value} {row:Option Nat} (h:MSt W w k B i r nx x f m v wr) (hW:W.heap.size≤k) (hk:k<w.heap.size) (hB:w.heap.size<B) (hc:Cod W wy k) (hg:wr.grownBy wy row) (hr : ∀ q,row=some q→q=k∨B+1≤q):MSt W w k B i r nx x f m v wy:=by
 refine ⟨hc,?_,h.a.grown hg (fun e=>by rcases hr _ e.symm with h | h<;>omega),h.b.grown hg (fun e=>by rcases hr _ e.symm with h | h<;>omega),Nat.le_trans h.ge hg.size⟩
 have h1:=h.gr
 refine ⟨hg.os.trans h1.os,hg.tape.trans h1.tape,hg.output.trans h1.output,Nat.le_trans h1.size hg.size,fun j hj hne=>(hg.block j (Nat.lt_of_lt_of_le hj h1.size) (fun e=>?_)).trans (h1.block j hj hne)⟩
 rcases hr j e.symm with h | h
 ·exact hne (by rw [h])
 ·omega
theorem MSt.own {W w wr wy:World} {k B:Nat} {i r nx x f m:Int} {v:Value} {row:Option Nat} (h:MSt W w k B i r nx x f m v wr) (hW:W.heap.size≤k) (hk:k<w.heap.size) (hB:w.heap.size<B) (hg:wr.grownBy wy row) (hr : ∀ q,row=some q→B+1≤q):MSt W w k B i r nx x f m v wy :=
 h.grown hW hk hB (h.cod.grown hg (fun e=>by have:=hr _ e.symm;omega) (fun j e=>by have:=hr j e;omega)) hg (fun q e=>.inr (hr q e))
theorem MSt.alloc {W w wr:World} {k B:Nat} {i r nx x f m:Int} {v:Value} (h:MSt W w k B i r nx x f m v wr) (hW:W.heap.size≤k) (hk:k<w.heap.size) (hB:w.heap.size<B) (o:Obj):MSt W w k B i r nx x f m v (wr.alloc o) :=
 h.own hW hk hB (World.grownBy_alloc wr o none) (fun q e=>by cases e)
theorem MSt.put {W w wr:World} {k B:Nat} {i r nx x f m:Int} {v:Value} (h:MSt W w k B i r nx x f m v wr) (hW:W.heap.size≤k) (hk:k<w.heap.size) (hB:w.heap.size<B) (v':Value):MSt W w k B i r nx x f m v' (wr.setCell ⟨B,6,none⟩ v'):=by
 have hg:=grown_set wr B 6 v'
 refine ⟨h.cod.grown hg (by simp;omega) (fun j e=>by cases e;omega),grown_own h.gr hg (fun j e=>by cases e;omega),h.a.grown hg (by simp;omega),?_,Nat.le_trans h.ge hg.size⟩
 obtain ⟨c0,c1,c2,c3,c4,c5,c6,fr⟩:=h.b
 exact ⟨by go_simp,by go_simp,by go_simp,by go_simp,by go_simp,by go_simp,by go_simp,fun j=>by rw [World.frozen?_setCell];exact fr j⟩
def MadeMsg (W w:World) (k:Nat) (e:Ending) (w':World):Prop :=
 ∃ (i r nx x f m:Int) (q:Option Addr) (n d:Nat) (l:List Pv),e=.returned (.agg #[.int .u64 i,.int .u64 r,.int .i64 nx,.int .i64 x,.int .i64 f,.int .u32 m,.slice q n d])∧n≤7∧(∀ y∈l,KindOk y.t)∧(34≤x∧x≤37) ∧
  (∀ w'',Kpt w' w'' w.heap.size→RdG KPv DPv w'' q n d l)∧Cod W w' k∧w.grownBy w' (some k)∧Good i r nx x f m∧(∀ y∈l,∃ C,Vld y C∧NumOk y∧C.pr.length≤2∧∀ w'',Kpt w' w'' w.heap.size→PvRd w'' y C)
def DTv:ReadN Pv where
 ok _ _:=True
 keep _ _:=trivial
theorem rdMsg {w w':World} {base:Nat} {p:Option Addr} {n c:Nat} {l:List Pv} (h:RowG KPv NTv w base (.slice p n c) l) (hl:l.length=n) (hk:Kpt w w' base) (hd : ∀ x∈l,NoteOk w' x):RdG KPv DPv w' p n c l:=by
 have:=RowG.kp (D:=DTv) h hl hk (fun _ _=>trivial)
 exact ⟨this.len,this.cap,this.big,this.mem,hd⟩
theorem TypeL.drop1 {w:World} {base b n:Nat} {L:List Int} (h:RowG KIn NIn w base (.slice (some ⟨b,0,none⟩) n n) L) (hn:L.length=n) (h1:1<n):TypeL w base (.slice (some ⟨b,1,none⟩) (n - 1) (n - 1)) (L.drop 1):=by
 have hb:=(h.lt b rfl).1
 obtain ⟨p,c,e,hi⟩:=h.its hn
 simp only [Value.slice.injEq] at e
 obtain ⟨rfl,-,rfl⟩:=e
 obtain ⟨b',o',e,hc⟩:=hi.mem (by omega)
 cases e
 refine .inr ⟨b,1,n - 1,rfl,by omega,hb,⟨by simp;omega,Nat.le_refl _,by have:=hi.big;omega,fun x hx=>hi.rng x (List.mem_of_mem_drop hx),fun _=>⟨b,1,rfl,fun i hi'=>?_⟩⟩⟩
 have:=hc (1+i) (by omega)
 rw [Nat.zero_add] at this
 rw [this]
 simp [List.getD_eq_getElem?_getD,Nat.add_comm 1 i]
theorem TypeL.rows {w:World} {base:Nat} {v:Value} {l:List Int} (h:TypeL w base v l) : ∀ b,v.ownBlock=some b→base≤b:=by
 obtain ⟨p,c,rfl,hi,hb⟩:=h.its
 exact hb
theorem lstM (j:Nat) (hj:j<4):KindOk (List.getD [41,43,37,42] j (0:Int)):=by
 have:j=0∨j=1∨j=2∨j=3:=by omega
 rcases this with rfl | rfl | rfl | rfl<;>(show _∧_∧_;simp)
theorem load_msg {w:World} {g:Nat} {i r nx x f m:Int} {q:Option Addr} {n d:Nat} (h:MIn w g i r nx x f m (.slice q n d)):(loadVar 32 ⟨g,0,none⟩).run Tryz.prog w=.ok (.agg #[.int .u64 i,.int .u64 r,.int .i64 nx,.int .i64 x,.int .i64 f,.int .u32 m,.slice q n d]) w:=by
 obtain ⟨c0,c1,c2,c3,c4,c5,c6,fr⟩:=h
 simp [loadVar,go_sem,c0,c1,c2,c3,c4,c5,c6,Result.andThen]
theorem ret_msg {fn:Func} {R:Ending→World→Prop} {a:Act} {w:World} {p:Nat} {g:Nat} {i r nx x f m:Int} {q:Option Addr} {n d:Nat} (h:fn.results=#[.cell p 32]) (hp:a.tmps.getD p undef=.pointer (some ⟨g,0,none⟩)) (hd:a.defers=[])
  (hh:MIn w g i r nx x f m (.slice q n d)) (hR:R (.returned (.agg #[.int .u64 i,.int .u64 r,.int .i64 nx,.int .i64 x,.int .i64 f,.int .u32 m,.slice q n d])) w):bodyPost Tryz.prog fn R .ret a w:=by
 refine bodyPost_ret (v:=.agg #[.int .u64 i,.int .u64 r,.int .i64 nx,.int .i64 x,.int .i64 f,.int .u32 m,.slice q n d]) ?_ hd hR
 rw [Array.getD_eq_getD_getElem?] at hp
 simp [results,h,hp,asAddr,load_msg hh]
set_option maxHeartbeats 6400000 in
set_option maxRecDepth 100000 in
theorem message_any (W w:World) (k:Nat) (h:Cod W w k) :
  Calls Tryz.prog 6 #[.pointer (some ⟨k,0,none⟩)] w (MadeMsg W w k):=by
 have hk:=h.lt
 have hbase:=h.base
 have H0:=hidden (h.alloc (.cells #[.int .u64 0,.int .u64 0,.int .i64 0,.int .i64 0,.int .i64 0,.int .u32 0,.slice none 0 0] 32))
 clear h
 go_enter Tryz.func6,Tryz.ntmps6
 go_upto_region 2 with (first
  | (go_at_call 14;(with_reducible refine (header_any W _ k H0.out).mono ?_);rintro e w1 ⟨i,r,nx,x,f,m,rfl,hgood,hc,hg⟩)
  | fail)
 generalize hw2:w1.alloc (.cells _ 32)=w2
 have hA:w1.cell? ⟨w.heap.size,0,none⟩=some (.int .u64 0)∧w1.cell? ⟨w.heap.size,1,none⟩=some (.int .u64 0)∧w1.cell? ⟨w.heap.size,2,none⟩=some (.int .i64 0)∧w1.cell? ⟨w.heap.size,3,none⟩=some (.int .i64 0)∧w1.cell? ⟨w.heap.size,4,none⟩=some (.int .i64 0)∧w1.cell? ⟨w.heap.size,5,none⟩=some (.int .u32 0)∧w1.cell? ⟨w.heap.size,6,none⟩=some (.slice none 0 0):=by
  refine ⟨hg.cell ?_ (by simp;omega),hg.cell ?_ (by simp;omega),hg.cell ?_ (by simp;omega),hg.cell ?_ (by simp;omega),hg.cell ?_ (by simp;omega),hg.cell ?_ (by simp;omega),hg.cell ?_ (by simp;omega)⟩
  all_goals (rw [World.cell?_alloc_at _ _ _ _ rfl];rfl)
 have hgs:=hg.size
 rw [World.size_alloc] at hgs
 have hfz : ∀ j,w1.frozen? ⟨w.heap.size,j,none⟩=false:=fun j=>(World.frozen?_of_block (a:=⟨w.heap.size,j,none⟩) (hg.block w.heap.size (by simp) (by simp;omega))).trans (frozen_of_row _ _ _ _ _ (heap_alloc_new _ _))
 have hb12:Below w1.heap.size w1 w2:=by rw [←hw2];exact (Below.refl _ _).alloc (Nat.le_refl _) _
 have HMA:Hid (MIn w2 w.heap.size 0 0 0 0 0 0 (.slice none 0 0)):=by
  obtain ⟨a0,a1,a2,a3,a4,a5,a6⟩:=hA
  exact ⟨cell_below hb12 _ _ a0,cell_below hb12 _ _ a1,cell_below hb12 _ _ a2,cell_below hb12 _ _ a3,cell_below hb12 _ _ a4,cell_below hb12 _ _ a5,cell_below hb12 _ _ a6,fun j=>(World.frozen?_of_block (a:=⟨w.heap.size,j,none⟩) (hb12.block w.heap.size (by omega))).trans (hfz j)⟩
 obtain ⟨B,hB⟩ : ∃ B,w1.heap.size=B:=⟨_,rfl⟩
 have HMB:Hid (MIn w2 B i r nx x f m (.slice none 0 0)):=by
  rw [←hw2,←hB]
  exact ⟨by rw [World.cell?_alloc_at _ _ _ _ rfl];rfl,by rw [World.cell?_alloc_at _ _ _ _ rfl];rfl,by rw [World.cell?_alloc_at _ _ _ _ rfl];rfl,by rw [World.cell?_alloc_at _ _ _ _ rfl];rfl,by rw [World.cell?_alloc_at _ _ _ _ rfl];rfl,by rw [World.cell?_alloc_at _ _ _ _ rfl];rfl,by rw [World.cell?_alloc_at _ _ _ _ rfl];rfl,fun j=>frozen_of_row _ _ _ _ _ (heap_alloc_new _ _)⟩
 have hs2:w2.heap.size=B+1:=by rw [←hw2,←hB];exact World.size_alloc _ _
 have HC2:=hidden (show Cod W w2 k by rw [←hw2];exact hc.alloc _)
 have HG2:=hidden (show w.grownBy w2 (some k) by rw [←hw2];exact grown_alloc_new (grown_trans (World.grownBy_alloc w _ (some k)) hg) _)
 have hBw:w.heap.size<B:=by omega
 have HGD:=hidden hgood
 rw [hB]
 clear hw2 hA hfz hb12 hc hg hgs hB hgood
 have c3:=HMB.out.c3
 have c4:=HMB.out.c4
 have HRI:Hid (∀ (l:List Int) (n:Nat),l.length=n→n≤100→(∀ x∈l,-9223372036854775808≤x∧x≤9223372036854775807)→RowG KIn NIn (w2.alloc (.cells (l.map (Value.int .i64)).toArray 3)) (B+1) (.slice (some ⟨B+1,0,none⟩) n n) l):=fun l n hl hn hr=>by
  have:=row_ints w2 (B+1) l n hl (by omega) hn hr
  rwa [hs2] at this
 go_upto_block 0 with fail
 go_cut [4] from 10 to 28 (fun v wx=>∃ (L:List Int) (n:Nat) (p:Option Addr),v=.slice p n n∧(n=0∧p=none∨1<n∧p=some ⟨B+1,0,none⟩)∧RowG KIn NIn wx (B+1) v L∧(∀ z∈L,KindOk z)∧L.length=n∧n≤5∧Below w2.heap.size w2 wx)
 case first =>
  have hx:=HGD.out.gx
  have hx':x=34∨x=35∨x=36∨x=37:=by omega
  rcases hx' with rfl | rfl | rfl | rfl
  ·skip
   go_wp2
   go_meet
   case rel=>exact ⟨[33,34,40],3,_,rfl,.inr ⟨by omega,rfl⟩,HRI.out [33,34,40] 3 rfl (by omega) (by decide),(by intro z hz;simp at hz;unfold KindOk;omega),rfl,by omega,(Below.refl _ _).alloc (Nat.le_refl _) _⟩
  ·have hf:=HGD.out.gf
   rcases hf with rfl | rfl | rfl | rfl
   ·skip
    go_wp2
    go_meet
    case rel=>exact ⟨[35,39,33,44,45],5,_,rfl,.inr ⟨by omega,rfl⟩,HRI.out [35,39,33,44,45] 5 rfl (by omega) (by decide),(by intro z hz;simp at hz;unfold KindOk;omega),rfl,by omega,(Below.refl _ _).alloc (Nat.le_refl _) _⟩
   ·skip
    go_wp2
    go_meet
    case rel=>exact ⟨[36,39,33,44,45],5,_,rfl,.inr ⟨by omega,rfl⟩,HRI.out [36,39,33,44,45] 5 rfl (by omega) (by decide),(by intro z hz;simp at hz;unfold KindOk;omega),rfl,by omega,(Below.refl _ _).alloc (Nat.le_refl _) _⟩
   ·skip
    go_wp2
    go_meet
    case rel=>exact ⟨[36,39,33,44,45],5,_,rfl,.inr ⟨by omega,rfl⟩,HRI.out [36,39,33,44,45] 5 rfl (by omega) (by decide),(by intro z hz;simp at hz;unfold KindOk;omega),rfl,by omega,(Below.refl _ _).alloc (Nat.le_refl _) _⟩
   ·skip
    go_wp2
    go_meet
    case rel=>exact ⟨[35,39,33,44,45],5,_,rfl,.inr ⟨by omega,rfl⟩,HRI.out [35,39,33,44,45] 5 rfl (by omega) (by decide),(by intro z hz;simp at hz;unfold KindOk;omega),rfl,by omega,(Below.refl _ _).alloc (Nat.le_refl _) _⟩
  ·skip
   go_wp2
   go_meet
   case rel=>exact ⟨[33,40],2,_,rfl,.inr ⟨by omega,rfl⟩,HRI.out [33,40] 2 rfl (by omega) (by decide),(by intro z hz;simp at hz;unfold KindOk;omega),rfl,by omega,(Below.refl _ _).alloc (Nat.le_refl _) _⟩
  ·go_wp2
   go_meet
   case rel=>exact ⟨[],0,none,rfl,.inl ⟨rfl,rfl⟩,RowG.nil _ _ _ _,by simp,rfl,by omega,Below.refl _ _⟩
 case rest =>
  obtain ⟨L0,n0,p0,rfl,hpn,hL,hKO,hLn,hn5,hb3⟩:=hcut
  have HPN:=hidden hpn
  have HL:=hidden hL
  have HKO:=hidden hKO
  have HLN:=hidden hLn
  have hBk:k<B:=by omega
  have HC3:=hidden (HC2.out.below hb3)
  have HMA3:=hidden (HMA.out.below hb3)
  have HMB3:=hidden (HMB.out.below hb3)
  have HG3:=hidden (grown_trans HG2.out (grown_of_below hb3 (some k)))
  have hs3:B+1≤wc.heap.size:=by rw [←hs2];exact hb3.size
  have HST:=hidden (show MSt W w k B i r nx x f m (.slice none 0 0) wc from ⟨HC3.out,HG3.out,HMA3.out,HMB3.out,hs3⟩)
  clear c3 c4 HRI hpn hL hKO hLn hb3 HC2 HMA HMB HG2 H0 HMA3 HMB3 HG3
  rename World=>w3
  go_upto_region 12 with fail
  go_cut [36] from 29 to 38 (fun c wx=>∃ b:Bool,c=.bool b∧(b=true→0<n0)∧Cod W wx k∧w3.grownBy wx (some k))
  case first =>
   go_wp2_with (first
    | (go_at_call 10;(with_reducible refine (next_any W _ k HC3.out _ ?_).mono ?_);omega;rintro e w4 ⟨r,rfl,r0,r1,hc,hg⟩;have HC4:=hidden hc;have HG4:=hidden hg;clear hc hg)
    | fail)
   all_goals
    go_meet
   all_goals
    case rel=>first
     | exact ⟨false,rfl,by simp,HC4.out,HG4.out⟩
     | exact ⟨decide (0<n0),rfl,by simp,HC4.out,HG4.out⟩
  case rest =>
   obtain ⟨bb,rfl,hbb,hc4,hg4⟩:=hcut
   have HBB:=hidden hbb
   have HST4:=hidden (HST.out.grown hbase hk hBw hc4 hg4 (fun q e=>by cases e;exact .inl rfl))
   have HL4:=hidden (HL.out.low hg4 (by omega))
   clear hbb hc4 hg4 HST HL HC3
   rename World=>w4
   go_upto_if 36 with fail
   go_cut [4] from 37 to 38 (fun v wx=>∃ L,TypeL wx (B+1) v L∧(∀ z∈L,KindOk z)∧L.length≤5∧wx=w4)
   case first =>
    cases bb with
    | false =>
     go_wp2
     go_meet
     case rel=>exact ⟨L0,.inl HL4.out,HKO.out,by rw [HLN.out];exact hn5,rfl⟩
    | true =>
     have h0:=HBB.out rfl
     have hpn:=HPN.out
     obtain ⟨h1,rfl⟩:1<n0∧p0=some ⟨B+1,0,none⟩:=by
      rcases hpn with ⟨h,_⟩ | h
      ·omega
      ·exact h
     have h1i:(1:Int)≤(n0:Int):=by omega
     have h1n:¬ n0=1:=by omega
     clear hpn HPN HBB
     go_wp2
     go_meet
     case rel=>exact ⟨L0.drop 1,TypeL.drop1 HL4.out HLN.out h1,fun z hz=>HKO.out z (List.mem_of_mem_drop hz),by rw [List.length_drop,HLN.out];omega,rfl⟩
   case rest =>
    obtain ⟨L,hTL,hKL,hL5,rfl⟩:=hcut
    have HTL:=hidden hTL
    have HKL:=hidden hKL
    clear hTL hKL HKO HLN HPN HBB HL4
    go_wp2_with (first
     | (go_at_call 10;(with_reducible refine (next_any W _ k HST4.out.cod _ ?_).mono ?_);omega;rintro e w5 ⟨y,rfl,y0,y1,hc,hg⟩;obtain ⟨y,rfl⟩:=Int.eq_ofNat_of_zero_le y0;have HST5:=hidden (HST4.out.grown hbase hk hBw hc hg (fun q e=>by cases e;exact .inl rfl));have HTL5:=hidden (HTL.out.grown hg (by omega));clear hc hg HTL HST4)
     | fail)
    go_loopw [4,5] (fun v c wr=>∃ (y:Nat) (L:List Int),c=.int .i64 y∧TypeL wr (B+1) v L∧(∀ z∈L,KindOk z)∧L.length+y≤7∧MSt W w k B i r nx x f m (.slice none 0 0) wr) (fun _ c _=>(intOf c).toNat)
    case atStart=>exact ⟨y,L,rfl,HTL5.out,HKL.out,by omega,HST5.out⟩
    case round =>
     obtain ⟨y,L,rfl,hTL,hKL,hLy,hST⟩:=hrel
     have HTL:=hidden hTL
     have HKL:=hidden hKL
     have HST:=hidden hST
     have hge:=hST.ge
     clear hTL hKL hST HTL5 HST5
     by_cases hy:0<y
     ·obtain ⟨y,rfl⟩ : ∃ z,y=z+1:=⟨y - 1,by omega⟩
      have hy':(0:Int)<((y+1:Nat):Int):=by omega
      have hwy:IntKind.i64.wrap (((y+1:Nat):Int) - 1)=(y:Int):=by rw [IntKind.wrap_i64];omega
      have HTA:=hidden (HTL.out.below ((Below.refl wr.heap.size wr).alloc (Nat.le_refl _) (.cells #[.int .i64 41,.int .i64 43,.int .i64 37,.int .i64 42] 3)))
      have HSA:=hidden (HST.out.alloc hbase hk hBw (.cells #[.int .i64 41,.int .i64 43,.int .i64 37,.int .i64 42] 3))
      have hkw:=HST.out.cod.lt
      clear HTL HST
      go_wp2_with (first
       | (go_at_call 10;(with_reducible refine (next_any W _ k HSA.out.cod _ ?_).mono ?_);omega;rintro e w6 ⟨j,rfl,j0,j1,hc,hg⟩;obtain ⟨j,rfl⟩:=Int.eq_ofNat_of_zero_le j0;have HS6:=hidden (HSA.out.grown hbase hk hBw hc hg (fun q e=>by cases e;exact .inl rfl));have HT6:=hidden (HTA.out.grown hg (by omega));have hkd:=lstM j (by omega);have hcell:=hg.cell (ints_at wr [41,43,37,42] 3 j (by simp;omega)) (by simp;omega);generalize List.getD [41,43,37,42] j (0:Int)=t at hkd hcell;have hT : -9223372036854775808≤t∧t≤9223372036854775807:=(by unfold KindOk at hkd;omega);have HKD:=hidden hkd;clear hc hg HSA HTA hkd)
       | (at_builtin;go_loud (refine wpList_append_types rfl _ _ 68 rfl knownIn (B+1) _ L rfl (HT6.out.below ((Below.refl w6.heap.size w6).alloc (Nat.le_refl _) _)) _ t rfl (srcIn w6 t _) hT (by omega) (by have:=HS6.out.ge;simp;omega) ?_))
       | fail)
      intro v7 w7 HR7 HG7
      have HS7:=hidden ((HS6.out.alloc hbase hk hBw _).own hbase hk hBw HG7.out (fun q e=>HT6.out.rows q e))
      clear HG7 HT6 HS6 hcell
      go_wp2
      go_roundw
      case rel=>exact ⟨y,L++[t],by go_num,.inl HR7.out,fun z hz=>by
        rcases List.mem_append.1 hz with hz | hz
        ·exact HKL.out z hz
        ·rw [List.mem_singleton.1 hz];exact HKD.out,by simp;omega,HS7.out⟩
      case measure=>simp [intOf]
     ·have hy':¬ (0:Int)<(y:Int):=by omega
      obtain ⟨pL,cL,rfl,hits,hbL⟩:=HTL.out.its
      have hSS : ∀ b o,pL=some ⟨b,o,none⟩→B+1≤b:=fun b o e=>by subst e;exact hbL b rfl
      have HSS:=hidden hSS
      have HIT:=hidden hits
      obtain ⟨N,hN⟩ : ∃ N,L.length=N:=⟨_,rfl⟩
      have hN7:N≤7:=by omega
      rw [hN] at HIT ⊢
      have HLN:=Is.mk hN
      have HW0:=hidden (RowG.nil KPv NTv wr wr.heap.size)
      have hitlt:0<N→∀ b o,pL=some ⟨b,o,none⟩→b<wr.heap.size:=fun h0 b o e=>by
       obtain ⟨b',o',e',hc⟩:=hits.mem (by rw [hN];exact h0)
       rw [e] at e'
       cases e'
       exact World.block_lt_of_cell? wr _ (hc 0 (by rw [hN];exact h0))
      have HLT:=hidden hitlt
      clear hSS hits hbL hN HTL hitlt hLy
      go_wp2_with fail
      rename World=>wS
      go_loopw [6] (fun c wr=>∃ (j:Nat) (v:Value) (l:List Pv),j≤N∧c=.int .i64 j∧l.length=j∧MSt W w k B i r nx x f m v wr∧RowG KPv NTv wr wS.heap.size v l∧(∀ y∈l,ElemOk wr (B+1) v y)∧Its wr pL N cL L∧wS.heap.size≤wr.heap.size) (fun c _=>N - (intOf c).toNat)
      case atStart=>exact ⟨0,_,[],by omega,rfl,rfl,HST.out,HW0.out,(fun y hy=>by cases hy),HIT.out,Nat.le_refl _⟩
      case round =>
       obtain ⟨j,v,l,hj,rfl,hlj,hst,hrow,hel,hits,hsz⟩:=hrel
       obtain ⟨pv,cv,rfl⟩:=hrow.form hlj
       have HS:=hidden hst
       have HRW:=hidden hrow
       have HEL:=hidden hel
       have HITS:=hidden hits
       have HLJ:=Is.mk hlj
       have hgew:=hst.ge
       have hsz':B+1≤wS.heap.size:=hge
       clear hst hrow hel hits hlj HW0 HST HIT
       by_cases hlt:j<N
       ·have hlt':(j:Int)<N:=by omega
        obtain ⟨b,o,rfl,hz⟩:=HITS.out.at_ j hlt
        have hb1:=HSS.out b o rfl
        have hb2:=HLT.out (by omega) b o rfl
        have HKZ:=hidden (HKL.out (L.getD j 0) (by
         rw [List.getD_eq_getElem?_getD,List.getElem?_eq_getElem (show j<L.length by rw [HLN.eq];exact hlt)]
         exact List.getElem_mem _))
        generalize L.getD j 0=z at hz HKZ
        have HSD:=hidden (HS.out.own hbase hk hBw (row:=none) (grown_drewN wr 1 none) (fun q e=>by cases e))
        have HMP:=hidden (mkpay_kind W wr.drew k HSD.out.cod z HKZ.out)
        have b6:=HS.out.b.c6
        have HKP:Hid (∀ W',wr.grownBy W' (some k)→W'.cell? ⟨B,6,none⟩=some (.slice pv j cv)∧W'.cell? ⟨b,o+j,none⟩=some (.int .i64 z)):=fun W' hg=>⟨hg.cell b6 (by simp;omega),hg.cell hz (by simp;omega)⟩
        go_upto_region 21 with fail
        have hBr:B<wr.heap.size:=HS.out.b.lt
        have hbr:b<wr.heap.size:=by omega
        go_wp2_with fail
        go_region_law (first
         | (go_simp;go_at_call 15;(with_reducible refine (HMP.out).mono ?_);rintro e w6 ⟨x',C,rfl,ht,hp,-,hpl,hpn,-,-,hc6,hg6,hnum,hvl⟩;have HG6:=hidden hg6;have HNW:=hidden (And.intro hp (And.intro hnum (And.intro hvl (And.intro (Nat.le_trans (Nat.le_of_eq hpl) hpn) ht))));have HS6:=hidden (HSD.out.grown hbase hk hBw hc6 hg6 (fun q e=>by cases e;exact .inl rfl));have HR6:=hidden ((HRW.out.grown (grown_drewN wr 1 none) (fun q e=>by cases e) (OffT.none _ _ _)).low hg6 (by omega));have hkp:=HKP.out _ (grown_trans (grown_drewN wr 1 _) hg6);have b66:=hkp.1;have hz6:=hkp.2;have hB6:B<w6.heap.size:=World.block_lt_of_cell? _ _ b66;have hb6':b<w6.heap.size:=World.block_lt_of_cell? _ _ hz6;clear ht hp hpl hpn hc6 hg6 hnum hvl hkp)
         | (refine step_append_w knownPv (by simp [NTv]) _ (by rfl) _ _ (by rfl) wS.heap.size _ l (by rfl) (HR6.out.alloc _) _ 1 1 [x'] (by rfl) (by omega) (srcPv w6 x' _) (fun x hx=>trivial) (by rw [HLJ.eq];unfold maxLen;omega) (by rw [HLJ.eq];omega) (by have h1:=HG6.out.size;simp at h1 ⊢;omega) ?_;intro v8 w8 HR8 HG8 HQ8;obtain ⟨p8,c8,rfl⟩:=HR8.out.form (n:=j+1) (by simp [HLJ.eq]);have HS8:=hidden ((HS6.out.alloc hbase hk hBw _).own hbase hk hBw HG8.out (fun q e=>by have:=((HRW.out).lt q e).1;omega));have b68:=HS8.out.b.c6;have bf8:=HS8.out.b.fr 6)
         | fail)
        all_goals
         have hgA:wr.grownBy w6 (some k):=grown_trans (grown_drewN wr 1 _) HG6.out
         have hgB:=World.grownBy_alloc w6 (.cells #[.int .i64 x'.t,.slice x'.pr.p x'.pr.n x'.pr.c,.int .i64 x'.eg,.slice x'.ed.p x'.ed.n x'.ed.c,.int .i64 x'.ik,.slice x'.id.p x'.id.n x'.id.c,.int .i64 x'.am,.slice x'.ad.p x'.ad.n x'.ad.c,.int .i64 x'.np,.slice x'.ns.p x'.ns.n x'.ns.c,.int .i64 x'.nt,.slice x'.nd.p x'.nd.n x'.nd.c,.int .i64 x'.dp,.slice x'.ds.p x'.ds.n x'.ds.c,.slice x'.se.p x'.se.n x'.se.c,.slice x'.da.p x'.da.n x'.da.c] 49) none
         have hlB : ∀ q,(Value.slice pv j cv).ownBlock=some q→wS.heap.size≤q∧q<wr.heap.size:=fun q e=>HRW.out.lt q e
         have HELN:Hid (∀ y∈l++[x'],ElemOk (w8.setCell ⟨B,6,none⟩ (.slice p8 (j+1) c8)) (B+1) (.slice p8 (j+1) c8) y):=fun y hy=>by
          have h6:ElemOk w6 (B+1) (.slice pv j cv) y:=by
           rcases List.mem_append.1 hy with hy | hy
           ·exact (HEL.out y hy).step hgA (fun q e=>by cases e;exact .inl (by omega))
           ·rw [List.mem_singleton.1 hy]
            obtain ⟨hp,hnum,hvl,hp2,ht⟩:=HNW.out
            exact ⟨w6,_,C,hp,Kpt.refl _ _,Nat.le_refl _,hgew,fun q e=>.inl (hlB q e).2,hnum,hvl,hp2,by rw [ht];exact HKZ.out⟩
          exact (((h6.step hgB (fun q e=>by cases e)).app HG8.out HQ8.out).step (grown_set w8 B 6 _) (fun q e=>by cases e;exact .inl (by omega)))
         have hS6 : ∀ b' o',some (⟨b,o,none⟩:Addr)=some ⟨b',o',none⟩→b'=b:=fun b' o' e=>by cases e;rfl
         have HIT8:=hidden ((((HITS.out.grownOff hgA (fun b' o' e=>by rw [hS6 b' o' e];simp;omega)).grownOff hgB (fun b' o' e=>by simp)).grownOff HG8.out (fun b' o' e e2=>by have:=(hlB _ e2.symm).1;rw [hS6 b' o' e] at this;omega)).grownOff (grown_set w8 B 6 (.slice p8 (j+1) c8)) (fun b' o' e=>by rw [hS6 b' o' e];simp;omega))
         have HR9:=hidden (HR8.out.low (grown_set w8 B 6 (.slice p8 (j+1) c8)) (by omega))
         have HS9:=hidden (HS8.out.put hbase hk hBw (.slice p8 (j+1) c8))
         have hsz9:wS.heap.size≤(w8.setCell ⟨B,6,none⟩ (.slice p8 (j+1) c8)).heap.size:=by
          have h1:=hgA.size
          have h2:=HG8.out.size
          simp [World.setCell] at h2 ⊢
          omega
         clear hgA hgB hlB hS6 b6 hz b66 hz6 b68 bf8 HG6 HNW HS6 HR6 HR8 HG8 HQ8 HS8
         go_wp2
         go_roundw
         case rel=>exact ⟨j+1,.slice p8 (j+1) c8,l++[x'],by omega,by go_num,by simp [HLJ.eq],HS9.out,HR9.out,HELN.out,HIT8.out,hsz9⟩
         case measure=>simp [intOf];omega
       ·have hlt':¬ (j:Int)<N:=by omega
        have hA:=HS.out.a
        have hB:=HS.out.b
        obtain ⟨a0,a1,a2,a3,a4,a5,a6,af⟩:=hA
        obtain ⟨b0,b1,b2,b3,b4,b5,b6,bf⟩:=hB
        have f0:=af 0
        have f1:=af 1
        have f2:=af 2
        have f3:=af 3
        have f4:=af 4
        have f5:=af 5
        have f6:=af 6
        clear af bf
        have hss:=HS.out
        have HFIN:=hidden (fun (wf:World) (hg:wr.grownBy wf (some w.heap.size))=>And.intro (hss.cod.grown hg (by simp;omega) (fun q e=>by cases e;omega)) (And.intro (grown_own hss.gr hg (fun q e=>by cases e;exact Nat.le_refl _)) (Kpt.low (base:=B+1) hg (by omega))))
        have hx3:=HGD.out.gx
        clear hss
        go_wp2
        have hgf:=(grown_trans (grown_trans (grown_trans (grown_trans (grown_trans (grown_trans (grown_set wr w.heap.size 0 (.int .u64 i)) (grown_set _ w.heap.size 1 (.int .u64 r))) (grown_set _ w.heap.size 2 (.int .i64 nx))) (grown_set _ w.heap.size 3 (.int .i64 x))) (grown_set _ w.heap.size 4 (.int .i64 f))) (grown_set _ w.heap.size 5 (.int .u32 m))) (grown_set _ w.heap.size 6 (.slice pv j cv)))
        obtain ⟨k1,k2,k3⟩:=HFIN.out _ hgf
        have hkd : ∀ y∈l,KindOk y.t:=fun y hy=>by
         obtain ⟨_,_,_,_,_,_,_,_,_,_,_,h⟩:=HEL.out y hy
         exact h
        have hpv : ∀ y∈l,∃ C,Vld y C∧NumOk y∧C.pr.length≤2∧∀ w'',Kpt _ w'' w.heap.size→PvRd w'' y C:=fun y hy=>by
         obtain ⟨w0,base,C,g1,g2,g3,g4,g5,g6,g7,g8,g9⟩:=HEL.out y hy
         exact ⟨C,g7,g6,g8,fun w'' hk''=>g1 w'' (g2.trans ((k3.trans (hk''.mono (by omega))).mono g4))⟩
        refine ret_msg (g:=w.heap.size) (i:=i) (r:=r) (nx:=nx) (x:=x) (f:=f) (m:=m) (q:=pv) (n:=j) (d:=cv) rfl rfl rfl ⟨by go_simp,by go_simp,by go_simp,by go_simp,by go_simp,by go_simp,by go_simp,fun j=>?_⟩ ?_
        ·rw [World.frozen?_setCell,World.frozen?_setCell,World.frozen?_setCell,World.frozen?_setCell,World.frozen?_setCell,World.frozen?_setCell,World.frozen?_setCell]
         exact HS.out.a.fr j
        ·exact ⟨i,r,nx,x,f,m,pv,j,cv,l,rfl,by omega,hkd,hx3,fun w'' hk''=>rdMsg HRW.out HLJ.eq ((k3.mono hsz').trans (hk''.mono (by omega))) (fun y hy=>(HEL.out y hy).note (k3.trans (hk''.mono (by omega)))),k1,k2,HGD.out,hpv⟩
end Go.Proofs.YtgpigjoonhghhaaGreat
