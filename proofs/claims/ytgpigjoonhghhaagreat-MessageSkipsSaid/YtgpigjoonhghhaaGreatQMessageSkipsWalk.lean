/-
 The law MessageSkips, walked: it returns true for every input, and only adds memory of its own.
-/
import Derived.Test.YtgpigjoonhghhaaGreatQZ36
import Derived.Test.YtgpigjoonhghhaaGreatQZ28
import Derived.Test.YtgpigjoonhghhaaGreatQZ0
import Derived.Deep.RegionHeld3
import Derived.Deep.Cut
namespace Go.Proofs.YtgpigjoonhghhaaGreat
open Go.RowKit
set_option linter.unusedVariables false
set_option linter.unusedSimpArgs false
set_option maxHeartbeats 6400000 in
set_option maxRecDepth 100000 in
theorem messageSkips_walk (p0:Option Addr) (n0 c0:Nat) (xs0:List Int) (z1 z2:Int) (w:World) (h0:Byt w p0 n0 c0 xs0) (r0:c0≤140737488351232) (g1:0≤z1∧z1≤255) (g2:0≤z2∧z2≤255) :
  Calls Tryz.prog 3 #[.slice p0 n0 c0,.int .u8 z1,.int .u8 z2] w fun e w'=>e=.returned (.bool true)∧Below w.heap.size w w':=by
 have HA:=hidden (awake07_any w)
 have H0:=hidden h0
 clear h0
 go_enter Tryz.func3,Tryz.ntmps3
 go_upto_region 5 with (first
  | (go_at_call 4;(with_reducible refine (HA.out).mono ?_);rintro e w1 ⟨rfl,hb⟩;have HB1:=hidden hb;clear hb HA)
  | (go_at_call 5;(refine (new_any w p0 n0 c0 xs0 _ H0.out HB1.out 240 (by omega)).mono ?_);rintro e w2 ⟨rfl,hcod,hbel⟩;have HC2:=hidden hcod;have HB2:=hidden (HB1.out.trans (hbel.mono HB1.out.size));have HMM:=hidden (message_any w w2 _ HC2.out);unfold MadeMsg at HMM;clear hcod hbel H0)
  | (go_at_call 6;(with_reducible refine (HMM.out).mono ?_);rintro e w3 ⟨i,r,nx,x,f,m,q,n,d,l,rfl,hn7,hko,hx4,hrd,hc3,hg3,hgd,hpv⟩;have HB3:=hidden (HB2.out.grown hg3 HB2.out.size (fun j e=>by cases e;exact HC2.out.base));have HRD0:=hidden (fun W (hW:Below w3.heap.size w3 W)=>hrd W (kpt_belowS hW _));have HZZ:=hidden (drawn_zip w3 _ l hko hpv);have HGD:=hidden hgd;have hkc:=hc3.lt;have hkb:=hc3.base;have HCD:=hidden (fun W (hW:Below w3.heap.size w3 W)=>hc3.below hW);clear hrd hg3 hgd hpv hko hx4 HMM HC2 HB2 hc3)
  | fail)
 obtain ⟨Z,rfl,hmz,hpz,hpr⟩:=HZZ.out
 have HMZ:=hidden hmz
 have HPZ:=hidden hpz
 have HPR:=hidden hpr
 have hzn:Z.length=n:=by have:=(HRD0.out w3 (Below.refl _ _)).len;rwa [List.length_map] at this
 have HX:=hidden (show IntR x by have:=HGD.out.gx;unfold IntR;omega)
 clear hmz hpr hpz HZZ HGD
 have HM4:=hidden (MIn.new w3 i r nx x f m (.slice q n d) 32)
 have hal:=(Below.refl w3.heap.size w3).alloc (Nat.le_refl _) (.cells #[.int .u64 i,.int .u64 r,.int .i64 nx,.int .i64 x,.int .i64 f,.int .u32 m,.slice q n d] 32)
 have HBX:=hidden hal
 have HB4:=hidden (HB3.out.trans (hal.mono HB3.out.size))
 generalize World.alloc w3 _=w4 at *
 obtain ⟨G3,hG3⟩ : ∃ g,w3.heap.size=g:=⟨_,rfl⟩
 have hg4:w3.heap.size≤w4.heap.size:=HBX.out.size
 rw [hG3] at HM4 HBX HRD0 HPR HCD hg4 hkc ⊢
 generalize w1.heap.size=kc at *
 clear hal hG3 HB1 HB3
 -- everything behind is read in worlds above w4
 have HM:=hidden (fun W (hW:Below w4.heap.size w4 W)=>HM4.out.below hW)
 have HC:=hidden (fun W (hW:Below w4.heap.size w4 W)=>HCD.out W (HBX.out.trans (hW.mono hg4)))
 have HRD:=hidden (fun W (hW:Below w4.heap.size w4 W)=>HRD0.out W (HBX.out.trans (hW.mono hg4)))
 have HDZ:=hidden (fun W (hW:Below w4.heap.size w4 W)=>HPR.out W (HBX.out.trans (hW.mono hg4)))
 have hgl:G3<w4.heap.size:=HM4.out.lt
 obtain ⟨b0,b1,b2,b3,b4,b5,b6,-⟩:=HM4.out
 clear HM4 HCD HRD0 HPR HBX hg4
 go_wp2_with fail
 clear b0 b1 b2 b3 b4 b5 b6
 go_loopw [9,33] (fun v c wr=>∃ (j:Nat) (L:List RawP),j≤n∧c=.int .i64 (j:Int)∧L.length=j∧BSt w4 v L wr∧L.map RawP.raw=(Z.take j).map rawZ) (fun _ c _=>n - (intOf c).toNat)
 case atStart=>exact ⟨0,[],by omega,rfl,rfl,BSt.start w4,by simp⟩
 case round =>
  obtain ⟨j,L,hj,rfl,hL,hst,hLZ⟩:=hrel
  have HLZ:=hidden hLZ
  clear hLZ
  have HS:=hidden hst
  obtain ⟨pv,cv,rfl⟩:=hst.row.form hL
  clear hst
  by_cases hjn:j<n
  ·have hjI:(j:Int)<(n:Int):=by omega
   have hjI0:(0:Int)≤(j:Int):=by omega
   obtain ⟨g,y0,rfl,hy,-,-,hc⟩:=(HRD.out _ HS.out.bel).drop_cons hjn
   have hzj:j<Z.length:=by omega
   have hzy:(Z[j]'hzj).1=y0:=by
    rw [List.getElem?_map,List.getElem?_eq_getElem hzj] at hy
    simpa using hy
   have HTK:=hidden (List.take_succ_eq_append_getElem hzj)
   have hmem:Z[j]'hzj∈Z:=List.getElem_mem hzj
   generalize Z[j]'hzj=z at *
   obtain ⟨y,C⟩:=z
   simp only at hzy
   subst hzy
   have HMZ1:=hidden (HMZ.out _ hmem)
   have HPB:=hidden (fun W (hW:Below w4.heap.size w4 W)=>rbuildZ ⟨y,C⟩ W (HDZ.out W hW _ hmem) HMZ1.out.k12)
   have c0:=hc 0 _ rfl
   have c1:=hc 1 _ rfl
   have c2:=hc 2 _ rfl
   have c3:=hc 3 _ rfl
   have c4:=hc 4 _ rfl
   have c5:=hc 5 _ rfl
   have c6:=hc 6 _ rfl
   have c7:=hc 7 _ rfl
   have c8:=hc 8 _ rfl
   have c9:=hc 9 _ rfl
   have c10:=hc 10 _ rfl
   have c11:=hc 11 _ rfl
   have c12:=hc 12 _ rfl
   have c13:=hc 13 _ rfl
   have c14:=hc 14 _ rfl
   have c15:=hc 15 _ rfl
   simp only [Nat.add_zero] at c0
   clear hc hy hmem
   simp only at HPB
   obtain ⟨bs,hbs⟩ : ∃ b,(buildB y C).1=b:=⟨_,rfl⟩
   rw [hbs] at HPB
   have HBS:=hidden hbs
   clear hbs
   go_upto_region 9 with fail
   have HPI:=hidden (PvIn.new wr y 49)
   have hal:=(Below.refl wr.heap.size wr).alloc (Nat.le_refl _) (.cells #[.int .i64 y.t,.slice y.pr.p y.pr.n y.pr.c,.int .i64 y.eg,.slice y.ed.p y.ed.n y.ed.c,.int .i64 y.ik,.slice y.id.p y.id.n y.id.c,.int .i64 y.am,.slice y.ad.p y.ad.n y.ad.c,.int .i64 y.np,.slice y.ns.p y.ns.n y.ns.c,.int .i64 y.nt,.slice y.nd.p y.nd.n y.nd.c,.int .i64 y.dp,.slice y.ds.p y.ds.n y.ds.c,.slice y.se.p y.se.n y.se.c,.slice y.da.p y.da.n y.da.c] 49)
   have HS5:=hidden (HS.out.below hal)
   generalize World.alloc wr _=w5 at *
   generalize wr.heap.size=G5 at *
   clear hal HS c0 c1 c2 c3 c4 c5 c6 c7 c8 c9 c10 c11 c12 c13 c14 c15
   obtain ⟨c0,c1,c2,c3,c4,c5,c6,c7,c8,c9,c10,c11,c12,c13,c14,c15,-⟩:=HPI.out
   clear HPI
   go_upto_region 12 with (first
    | (go_at_call 7;(with_reducible refine (HPB.out _ HS5.out.bel).mono ?_);rintro e w7 ⟨q,N,d,rfl,hb7,hel⟩;have HS7:=hidden (HS5.out.below hb7);have HEL:=hidden hel;have HLT:=hidden (HS5.out.row.lt);clear hb7 hel HPB)
    | fail)
   have hal:=(Below.refl w7.heap.size w7).alloc (Nat.le_refl _) (.cells #[.int .i64 y.t,.bool false,.slice q N d] 51)
   have HS8:=hidden (HS7.out.below hal)
   have HEP:=hidden (show ElemP (fun W=>Byt W q N d bs) (w7.alloc (.cells #[.int .i64 y.t,.bool false,.slice q N d] 51)) w4.heap.size (.slice pv j cv) from (ElemP.new HEL.out HS5.out.bel.size (fun q e=>(HLT.out q e).2)).below hal)
   have r0:(w7.alloc (.cells #[.int .i64 y.t,.bool false,.slice q N d] 51)).cell? ⟨w7.heap.size,0,none⟩=some (.int .i64 y.t):=by go_simp
   have r1:(w7.alloc (.cells #[.int .i64 y.t,.bool false,.slice q N d] 51)).cell? ⟨w7.heap.size,1,none⟩=some (.bool false):=by go_simp
   have r2:(w7.alloc (.cells #[.int .i64 y.t,.bool false,.slice q N d] 51)).cell? ⟨w7.heap.size,2,none⟩=some (.slice q N d):=by go_simp
   generalize World.alloc w7 _=w8 at *
   generalize w7.heap.size=G7 at *
   clear hal HS7 HEL HLT HS5 c0 c1 c2 c3 c4 c5 c6 c7 c8 c9 c10 c11 c12 c13 c14 c15
   go_wp2_with (first
    | (at_builtin;go_loud (refine wpList_append_w knownRw (by simp [NRw]) _ rfl _ _ rfl w4.heap.size _ L rfl (HS8.out.row.alloc _) _ 1 1 [⟨y.t,false,q,N,d,bs⟩] rfl (by omega) (SrcG.new KRw _ [⟨y.t,false,q,N,d,bs⟩] _) (fun x hx=>trivial) (by unfold maxLen;omega) (by omega) (by have:=HS8.out.bel.size;simp;omega) ?_))
    | fail)
   intro v10 w10 HR10 HG10 HQ10
   have hal:=(Below.refl w8.heap.size w8).alloc (Nat.le_refl _) (.cells #[.int .i64 y.t,.bool false,.slice q N d] 51)
   have HS10:=hidden ((HS8.out.below hal).app (HEP.out.below hal) HR10.out HG10.out (by rw [World.size_alloc];exact HQ10.out))
   clear hal HS8 HEP HR10 HG10 HQ10 r0 r1 r2
   go_wp2_with fail
   go_roundw
   case rel=>exact ⟨j+1,_,by omega,by go_num,by simp [hL],HS10.out,by
    rw [List.map_append,HLZ.out,HTK.out,List.map_append]
    congr 1
    show [(⟨y.t,false,bs⟩:Raw)]=[⟨y.t,false,(buildB y C).1⟩]
    rw [HBS.out]⟩
   case measure=>simp [intOf]<;>omega
  ·have hjn2:¬ (j:Int)<(n:Int):=by omega
   obtain rfl:j=n:=by omega
   obtain ⟨p2,c2,e2,hrd⟩:=HS.out.rdr hL
   simp only [Value.slice.injEq] at e2
   obtain ⟨rfl,-,rfl⟩:=e2
   have HRL:=hidden hrd
   have HPV:Hid ((pv=none∧cv=0∧j=0)∨∃ g,pv=some ⟨g,0,none⟩):=hidden (by
    rcases HS.out.row.own.2 with ⟨hv,-⟩ | ⟨g,cap,cur,hv,-⟩
    ·simp at hv
     exact Or.inl ⟨hv.1,hv.2.2,hv.2.1⟩
    ·simp at hv
     exact Or.inr ⟨g,hv.1⟩)
   have hRS:L.map RawP.raw=Z.map rawZ:=by rw [HLZ.out,List.take_of_length_le (by omega)]
   have HOK:=hidden (okZ Z HMZ.out (by omega))
   have HER:=hidden (errR_Z Z HMZ.out HPZ.out)
   obtain ⟨rs,hrs⟩ : ∃ rs,Z.map rawZ=rs:=⟨_,rfl⟩
   rw [hrs] at hRS HOK HER
   have HRS:=hidden hRS
   have HBL:=hidden HS.out.bel
   have hrw:=hrd wr (Kpt.refl _ _)
   have HBC:=hidden (rbuildC_any pv j cv L 0 wr hrw (nextC 0 rs) (encC 0 rs) 0 (by rw [hRS];exact HOK.out.build))
   have hrg : ∀ y∈encC 0 rs,0≤y∧y≤255:=encC_rng 0 rs (fun r hr=>by
    rw [←hRS] at hr
    obtain ⟨y,hy,rfl⟩:=List.mem_map.1 hr
    exact (hrw.bods y hy).rng)
   have HRB:=hidden (fun r (hr:r∈rs)=>(show ∀ z∈r.b,0≤z∧z≤255 by
    rw [←hRS] at hr
    obtain ⟨y,hy,rfl⟩:=List.mem_map.1 hr
    exact (hrw.bods y hy).rng))
   have HRG:=hidden hrg
   have HRZ:=hidden HOK.out.read
   have hle:=HOK.out.len
   unfold BuiltC at HBC
   obtain ⟨K1,hK1⟩ : ∃ k,nextC 0 rs=k:=⟨_,rfl⟩
   obtain ⟨X1,hX1⟩ : ∃ k,encC 0 rs=k:=⟨_,rfl⟩
   rw [hK1] at HBC HRZ
   rw [hX1] at HBC HRZ HRG hle
   obtain ⟨N1,hN1⟩ : ∃ k,X1.length=k:=⟨_,rfl⟩
   rw [hN1] at hle
   have HN1:=hidden hN1
   clear hrd hRS hrs hrw hrg hK1 hX1 hN1 HMZ HPZ HDZ HRD HLZ HS hjn hjn2 hj hL
   go_upto_region 15 with (first
    | (go_at_call 8;(with_reducible refine (HBC.out).mono ?_);rintro e w7 ⟨v7,rfl,ho,hb⟩;obtain ⟨q7,d7,rfl,hy⟩:=ho.bytN rfl HN1.out HRG.out;have HB7:=hidden (HBL.out.trans (hb.mono HBL.out.size));have HKP:=hidden (Kpt.of_belowS hb w4.heap.size);have HIN:=hidden (insideX i r nx x f m HX.out K1 q7 N1 d7 X1 w7 hy hle rs HRZ.out (fun y hy=>(HOK.out.el y hy).2.2));clear ho hb hy HBC)
    | fail)
   obtain ⟨b0,b1,b2,b3,b4,b5,b6,-⟩:=HM.out w7 HB7.out
   go_upto_region 16 with (first
    | (go_at_call 9;(with_reducible refine (HIN.out).mono ?_);rintro e w8 hX;obtain ⟨i1,r1,nx1,x1,f1,m1,q1,n1,d1,E1,rfl⟩:=hX.form;have HXA:=hidden (show ReadX w7 i r nx x f m rs (msgRet i1 r1 nx1 x1 f1 m1 q1 n1 d1 E1) w8 from hX);have HB8:=hidden (HB7.out.trans (hX.1.mono HB7.out.size));have HKP8:=hidden (HKP.out.trans (Kpt.of_belowS hX.1 w4.heap.size));clear hX HIN b0 b1 b2 b3 b4 b5 b6 HKP)
    | fail)
   have hma:=MIn.new w8 i1 r1 nx1 x1 f1 m1 (.slice q1 n1 d1) 32
   have hal:=(Below.refl w8.heap.size w8).alloc (Nat.le_refl _) (.cells #[.int .u64 i1,.int .u64 r1,.int .i64 nx1,.int .i64 x1,.int .i64 f1,.int .u32 m1,.slice q1 n1 d1] 32)
   have hg8:w4.heap.size≤w8.heap.size:=HB8.out.size
   have hs7:w4.heap.size≤w7.heap.size:=HB7.out.size
   generalize World.alloc w8 _=w9 at *
   have HKA:=hidden (Kpt.of_belowS hal w4.heap.size)
   have HB9:=hidden (HB8.out.trans (hal.mono hg8))
   have HMA:=hidden hma
   obtain ⟨G8,hG8⟩ : ∃ g,w8.heap.size=g:=⟨_,rfl⟩
   rw [hG8] at HMA hg8 hma hal ⊢
   clear hma hal hG8 HB7 HB8
   go_cut [19] from 63 to 73 (fun g wx=>∃ (G:Nat) (kx:Int) (cx:Bool) (bx:Nat),g=.pointer (some ⟨G,0,none⟩)∧(60≤kx∧kx≤159)∧w4.heap.size≤G∧wx.cell? ⟨G,0,none⟩=some (.int .i64 kx)∧wx.cell? ⟨G,1,none⟩=some (.bool cx)∧wx.cell? ⟨G,2,none⟩=some (.slice (some ⟨bx,0,none⟩) 1 1)∧Bod wx w4.heap.size (some ⟨bx,0,none⟩) 1 1 [z2]∧Below w9.heap.size w9 wx)
   case first =>
    have ht1:Int.tmod z1 100=z1 % 100:=Int.tmod_eq_emod_of_nonneg g1.1
    have ht2:Int.tmod z2 2=z2 % 2:=Int.tmod_eq_emod_of_nonneg g2.1
    have hk1:0≤z1 % 100∧z1 % 100≤99:=by omega
    have hsz9:w4.heap.size≤w9.heap.size:=HB9.out.size
    have hbd:=raw_bod w9 w4.heap.size z2 hsz9 g2
    have hbel : ∀ o1 o2,Below w9.heap.size w9 ((w9.alloc o1).alloc o2):=fun o1 o2=>((Below.refl w9.heap.size w9).alloc (Nat.le_refl _) o1).alloc (by simp) o2
    rcases (show z2 % 2=0∨z2 % 2=1 by omega) with hp | hp
    ·go_wp2
     go_meet
     case rel=>exact ⟨w9.heap.size+1,60+z1 % 100,false,w9.heap.size,rfl,by omega,by omega,by go_simp,by go_simp,by go_simp,hbd _,hbel _ _⟩
    ·go_wp2
     go_meet
     case rel=>exact ⟨w9.heap.size+1,60+z1 % 100,true,w9.heap.size,rfl,by omega,by omega,by go_simp,by go_simp,by go_simp,hbd _,hbel _ _⟩
   case rest =>
    obtain ⟨G,kx,cx,bx,rfl,hkx,hG,x0,x1c,x2,hxb,hbx⟩:=hcut
    have hwc:=HB9.out.trans (hbx.mono HB9.out.size)
    have HNX:=hidden (next_any w wc kc (HC.out wc hwc) ((j:Int)+1) (by omega))
    have HKc:=hidden (HKP8.out.trans (HKA.out.trans (Kpt.of_belowS hbx w4.heap.size)))
    have HKy:=hidden ((HKA.out.trans (Kpt.of_belowS hbx w4.heap.size)).mono hs7)
    have HMc:=hidden (HMA.out.below hbx)
    have HMh:=hidden (HM.out wc hwc)
    have HBc:=hidden (HB4.out.trans (hwc.mono HB4.out.size))
    have HXB:=hidden hxb
    have hj7:j≤7:=hn7
    clear hbx hwc hxb HKP8 HKA HMA HM HC HB9
    go_upto_region 18 with (first
     | (go_at_call 10;(with_reducible refine (HNX.out).mono ?_);rintro e w11 ⟨t,rfl,t0,t1,-,hg⟩)
     | fail)
    obtain ⟨t,rfl⟩:=Int.eq_ofNat_of_zero_le t0
    have hk4:kc<w4.heap.size:=by omega
    have hK11:=Kpt.low hg hk4
    have HRL11:=hidden (fun W (hW:Below w11.heap.size w11 W)=>HRL.out W (HKc.out.trans (hK11.trans (Kpt.of_belowS hW _))))
    have HKX:=hidden (fun W (hW:Below w11.heap.size w11 W)=>HKy.out.trans ((hK11.mono hs7).trans (Kpt.of_belowS hW _)))
    have HM11:=hidden (fun W (hW:Below w11.heap.size w11 W)=>(HMh.out.keep (hg.block G3 HMh.out.lt (by simp;omega))).below hW)
    have HMA11:=hidden (fun W (hW:Below w11.heap.size w11 W)=>(HMc.out.keep (hg.block G8 HMc.out.lt (by simp;omega))).below hW)
    have HXB11:=hidden (fun W (hW:Below w11.heap.size w11 W)=>((HXB.out.grown hg (OffB.low hk4)).below hW).byt)
    have HX0:=hidden (fun W (hW:Below w11.heap.size w11 W)=>cell_below hW _ _ (hg.cell x0 (by simp;omega)))
    have HX1:=hidden (fun W (hW:Below w11.heap.size w11 W)=>cell_below hW _ _ (hg.cell x1c (by simp;omega)))
    have HX2:=hidden (fun W (hW:Below w11.heap.size w11 W)=>cell_below hW _ _ (hg.cell x2 (by simp;omega)))
    have HB11:=hidden (HBc.out.grown hg HBc.out.size (fun j e=>by cases e;exact hkb))
    have htj:t≤j:=by omega
    have htjI:(t:Int)≤(j:Int):=by omega
    have HSF:=hidden (fun W (hW:Below w11.heap.size w11 W)=>(HRL11.out W hW).srcFront t htj)
    clear hK11 HKc HKy HMh HMc HXB x0 x1c x2 hg HBc HRL t0 t1 hkc hkb hgl HNX
    have hcv:=(HRL11.out w11 (Below.refl _ _)).cap
    have hLj:=(HRL11.out w11 (Below.refl _ _)).len
    have HDR:=hidden (drew_below ⟨1,rfl⟩:Below w11.heap.size w11 w11.drew)
    go_cut [21] from 78 to 89 (fun v wx=>∃ (p:Option Addr) (c:Nat),v=.slice p (j+1) c∧RdR wx p (j+1) c (L.take t++⟨kx,cx,some ⟨bx,0,none⟩,1,1,[z2]⟩ :: L.drop t)∧Below w11.heap.size w11 wx)
    case first =>
     have hbod : ∀ l:List RawP,l=L.take t++⟨kx,cx,some ⟨bx,0,none⟩,1,1,[z2]⟩ :: L.drop t→∀ y∈l,Byt w11 y.p y.n y.m y.b:=fun l hl y hy=>by
      subst hl
      have hbo:=(HRL11.out w11 (Below.refl _ _)).bods
      rcases List.mem_append.1 hy with hy | hy
      ·exact hbo y (List.mem_of_mem_take hy)
      ·rcases List.mem_cons.1 hy with rfl | hy
       ·exact HXB11.out w11 (Below.refl _ _)
       ·exact hbo y (List.mem_of_mem_drop hy)
     rcases HPV.out with ⟨rfl,rfl,rfl⟩ | ⟨g,rfl⟩
     ·obtain rfl:t=0:=by omega
      have hl0:L=[]:=List.eq_nil_of_length_eq_zero hLj
      have HDA:=hidden (fun o=>HDR.out.alloc HDR.out.size o)
      have HDAS:=hidden (srcRw w11.drew kx cx (some ⟨bx,0,none⟩) 1 1 [z2] 51)
      have HAD:=hidden (fun o=>(show Below w11.heap.size w11 (w11.alloc o).drew from ((Below.refl w11.heap.size w11).alloc (Nat.le_refl _) o).trans ((show Below (w11.alloc o).heap.size (w11.alloc o) (w11.alloc o).drew from drew_below ⟨1,rfl⟩).mono (by simp))))
      have HADS:=hidden (show SrcG KRw (w11.alloc (.cells #[.int .i64 kx,.bool cx,.slice (some ⟨bx,0,none⟩) 1 1] 51)).drew (some ⟨w11.heap.size,0,none⟩) 1 [⟨kx,cx,some ⟨bx,0,none⟩,1,1,[z2]⟩] from (srcRw w11 kx cx (some ⟨bx,0,none⟩) 1 1 [z2] 51).belowK (show Below (w11.alloc (.cells #[.int .i64 kx,.bool cx,.slice (some ⟨bx,0,none⟩) 1 1] 51)).heap.size (w11.alloc (.cells #[.int .i64 kx,.bool cx,.slice (some ⟨bx,0,none⟩) 1 1] 51)) (w11.alloc (.cells #[.int .i64 kx,.bool cx,.slice (some ⟨bx,0,none⟩) 1 1] 51)).drew from drew_below ⟨1,rfl⟩))
      go_region_held3 (fun w'=>w'.cell? ⟨G,0,none⟩=some (.int .i64 kx)∧w'.cell? ⟨G,1,none⟩=some (.bool cx)∧w'.cell? ⟨G,2,none⟩=some (.slice (some ⟨bx,0,none⟩) 1 1)) ((first | exact ⟨xx0,xx1,xx2⟩ | exact ⟨HX0.out _ HDR.out,HX1.out _ HDR.out,HX2.out _ HDR.out⟩ | exact ⟨HX0.out _ (hb12.alloc hb12.size _),HX1.out _ (hb12.alloc hb12.size _),HX2.out _ (hb12.alloc hb12.size _)⟩ | exact ⟨HX0.out _ (HDA.out _),HX1.out _ (HDA.out _),HX2.out _ (HDA.out _)⟩ | exact ⟨HX0.out _ (HAD.out _),HX1.out _ (HAD.out _),HX2.out _ (HAD.out _)⟩))
       (first
       | (have hb12':=HDA.out (.cells #[.int .i64 kx,.bool cx,.slice (some ⟨bx,0,none⟩) 1 1] 51);(refine step_append_g knownRw (by simp [NRw]) _ (by rfl) _ _ (by rfl) w11.heap.size _ [] (by rfl) (RowG.nil KRw NRw _ w11.heap.size) _ 1 1 [⟨kx,cx,some ⟨bx,0,none⟩,1,1,[z2]⟩] (by rfl) HDAS.out (fun x hx=>trivial) ?_ ?_ hb12'.size ?_);(focus (show ([]:List RawP).length+1≤maxLen;unfold maxLen;simp only [List.length_nil];omega));(focus (show (([]:List RawP).length+1)*_≤_;simp only [List.length_nil];omega));intro v13 w13 hr13 hg13;have hb13:=hb12'.grown hg13 hb12'.size (nob _);have xx0:=HX0.out w13 hb13;have xx1:=HX1.out w13 hb13;have xx2:=HX2.out w13 hb13;have hsb:=(⟨rfl,fun h9=>absurd h9 (by omega)⟩:SrcG KRw w13 none 0 []))
       | (have hb12':=HAD.out (.cells #[.int .i64 kx,.bool cx,.slice (some ⟨bx,0,none⟩) 1 1] 51);(refine step_append_g knownRw (by simp [NRw]) _ (by rfl) _ _ (by rfl) w11.heap.size _ [] (by rfl) (RowG.nil KRw NRw _ w11.heap.size) _ 1 1 [⟨kx,cx,some ⟨bx,0,none⟩,1,1,[z2]⟩] (by rfl) HADS.out (fun x hx=>trivial) ?_ ?_ hb12'.size ?_);(focus (show ([]:List RawP).length+1≤maxLen;unfold maxLen;simp only [List.length_nil];omega));(focus (show (([]:List RawP).length+1)*_≤_;simp only [List.length_nil];omega));intro v13 w13 hr13 hg13;have hb13:=hb12'.grown hg13 hb12'.size (nob _);have xx0:=HX0.out w13 hb13;have xx1:=HX1.out w13 hb13;have xx2:=HX2.out w13 hb13;have hsb:=(⟨rfl,fun h9=>absurd h9 (by omega)⟩:SrcG KRw w13 none 0 []))
       | ((refine step_append_g knownRw (by simp [NRw]) _ (by rfl) _ _ (by rfl) w11.heap.size _ _ (by rfl) hr13 _ 0 _ [] (by rfl) hsb (fun x hx=>trivial) ?_ ?_ hb13.size ?_);(focus (unfold maxLen;simp only [List.length_append,List.length_cons,List.length_nil];omega));(focus (simp only [List.length_append,List.length_cons,List.length_nil];omega));intro v14 w14 hr14 hg14;have hb14:=hb13.grown hg14 hb13.size (fun q e=>(hr13.lt q e).1);have xx0:=HX0.out w14 hb14;have xx1:=HX1.out w14 hb14;have xx2:=HX2.out w14 hb14)
       | fail)
      all_goals go_wp2
      all_goals go_meet
      all_goals (obtain ⟨pX,cX,rfl,hrX⟩:=rdr_more hr14 (n:=0+1) (by simp [hLj]) (hbod _ (by simp [hl0])) hb14)
      all_goals exact ⟨pX,cX,rfl,by simpa [hl0] using hrX,hb14⟩
     ·have hcvI:(j:Int)≤(cv:Int):=by omega
      have htcI:(t:Int)≤(cv:Int):=by omega
      have ht0I:(0:Int)≤(t:Int):=by omega
      have HDA:=hidden (fun o=>HDR.out.alloc HDR.out.size o)
      have HDAS:=hidden (srcRw w11.drew kx cx (some ⟨bx,0,none⟩) 1 1 [z2] 51)
      have HAD:=hidden (fun o=>(show Below w11.heap.size w11 (w11.alloc o).drew from ((Below.refl w11.heap.size w11).alloc (Nat.le_refl _) o).trans ((show Below (w11.alloc o).heap.size (w11.alloc o) (w11.alloc o).drew from drew_below ⟨1,rfl⟩).mono (by simp))))
      have HADS:=hidden (show SrcG KRw (w11.alloc (.cells #[.int .i64 kx,.bool cx,.slice (some ⟨bx,0,none⟩) 1 1] 51)).drew (some ⟨w11.heap.size,0,none⟩) 1 [⟨kx,cx,some ⟨bx,0,none⟩,1,1,[z2]⟩] from (srcRw w11 kx cx (some ⟨bx,0,none⟩) 1 1 [z2] 51).belowK (show Below (w11.alloc (.cells #[.int .i64 kx,.bool cx,.slice (some ⟨bx,0,none⟩) 1 1] 51)).heap.size (w11.alloc (.cells #[.int .i64 kx,.bool cx,.slice (some ⟨bx,0,none⟩) 1 1] 51)) (w11.alloc (.cells #[.int .i64 kx,.bool cx,.slice (some ⟨bx,0,none⟩) 1 1] 51)).drew from drew_below ⟨1,rfl⟩))
      rcases Nat.lt_or_ge t cv with htc | htc
      ·have hne:¬ cv=t:=by omega
       have hne':¬ (t:Int)=(cv:Int):=by omega
       go_region_held3 (fun w'=>w'.cell? ⟨G,0,none⟩=some (.int .i64 kx)∧w'.cell? ⟨G,1,none⟩=some (.bool cx)∧w'.cell? ⟨G,2,none⟩=some (.slice (some ⟨bx,0,none⟩) 1 1)) ((first | exact ⟨xx0,xx1,xx2⟩ | exact ⟨HX0.out _ HDR.out,HX1.out _ HDR.out,HX2.out _ HDR.out⟩ | exact ⟨HX0.out _ (hb12.alloc hb12.size _),HX1.out _ (hb12.alloc hb12.size _),HX2.out _ (hb12.alloc hb12.size _)⟩ | exact ⟨HX0.out _ (HDA.out _),HX1.out _ (HDA.out _),HX2.out _ (HDA.out _)⟩ | exact ⟨HX0.out _ (HAD.out _),HX1.out _ (HAD.out _),HX2.out _ (HAD.out _)⟩))
        (first
        | ((refine step_append_g knownRw (by simp [NRw]) _ (by rfl) _ _ (by rfl) w11.heap.size _ [] (by rfl) (RowG.nil KRw NRw _ w11.heap.size) _ t cv (L.take t) (by rfl) (HSF.out _ HDR.out) (fun x hx=>trivial) ?_ ?_ HDR.out.size ?_);(focus (simp;unfold maxLen;omega));(focus (simp;omega));intro v12 w12 hr12 hg12;have hb12:=HDR.out.grown hg12 HDR.out.size (nob _);have xx0:=HX0.out w12 hb12;have xx1:=HX1.out w12 hb12;have xx2:=HX2.out w12 hb12)
        | ((refine step_append_g knownRw (by simp [NRw]) _ (by rfl) _ _ (by rfl) w11.heap.size _ [] (by rfl) (RowG.nil KRw NRw _ w11.heap.size) _ t cv (L.take t) (by rfl) (HSF.out _ (HDA.out (.cells #[.int .i64 kx,.bool cx,.slice (some ⟨bx,0,none⟩) 1 1] 51))) (fun x hx=>trivial) ?_ ?_ (HDA.out (.cells #[.int .i64 kx,.bool cx,.slice (some ⟨bx,0,none⟩) 1 1] 51)).size ?_);(focus (simp;unfold maxLen;omega));(focus (simp;omega));intro v12 w12 hr12 hg12;have hb12:=(HDA.out (.cells #[.int .i64 kx,.bool cx,.slice (some ⟨bx,0,none⟩) 1 1] 51)).grown hg12 (HDA.out (.cells #[.int .i64 kx,.bool cx,.slice (some ⟨bx,0,none⟩) 1 1] 51)).size (nob _);have hsx:=HDAS.out.belowK (Below.grown (Below.refl _ _) hg12 (Nat.le_refl _) (nob _));have xx0:=HX0.out w12 hb12;have xx1:=HX1.out w12 hb12;have xx2:=HX2.out w12 hb12)
        | ((refine step_append_g knownRw (by simp [NRw]) _ (by rfl) _ _ (by rfl) w11.heap.size _ [] (by rfl) (RowG.nil KRw NRw _ w11.heap.size) _ t cv (L.take t) (by rfl) (HSF.out _ (HAD.out (.cells #[.int .i64 kx,.bool cx,.slice (some ⟨bx,0,none⟩) 1 1] 51))) (fun x hx=>trivial) ?_ ?_ (HAD.out (.cells #[.int .i64 kx,.bool cx,.slice (some ⟨bx,0,none⟩) 1 1] 51)).size ?_);(focus (simp;unfold maxLen;omega));(focus (simp;omega));intro v12 w12 hr12 hg12;have hb12:=(HAD.out (.cells #[.int .i64 kx,.bool cx,.slice (some ⟨bx,0,none⟩) 1 1] 51)).grown hg12 (HAD.out (.cells #[.int .i64 kx,.bool cx,.slice (some ⟨bx,0,none⟩) 1 1] 51)).size (nob _);have hsx:=HADS.out.belowK (Below.grown (Below.refl _ _) hg12 (Nat.le_refl _) (nob _));have xx0:=HX0.out w12 hb12;have xx1:=HX1.out w12 hb12;have xx2:=HX2.out w12 hb12)
        | (have hb12':=hb12.alloc hb12.size (.cells #[.int .i64 kx,.bool cx,.slice (some ⟨bx,0,none⟩) 1 1] 51);have hr12':=hr12.alloc (.cells #[.int .i64 kx,.bool cx,.slice (some ⟨bx,0,none⟩) 1 1] 51);(refine step_append_g knownRw (by simp [NRw]) _ (by rfl) _ _ (by rfl) w11.heap.size _ _ (by rfl) (hr12.alloc (.cells #[.int .i64 kx,.bool cx,.slice (some ⟨bx,0,none⟩) 1 1] 51)) _ 1 1 [⟨kx,cx,some ⟨bx,0,none⟩,1,1,[z2]⟩] (by rfl) (srcRw w12 kx cx (some ⟨bx,0,none⟩) 1 1 [z2] 51) (fun x hx=>trivial) ?_ ?_ (by have:=hb12.size;simp;omega) ?_);(focus (simp [hLj];unfold maxLen;omega));(focus (simp [hLj];omega));intro v13 w13 hr13 hg13;have hb13:=hb12'.grown hg13 hb12'.size (fun q e=>(hr12'.lt q e).1);have xx0:=HX0.out w13 hb13;have xx1:=HX1.out w13 hb13;have xx2:=HX2.out w13 hb13;have hsb:=(HRL11.out w13 hb13).srcBack t htj (some ⟨g,t*3,none⟩) (fun _=>rfl))
        | (have hb12':=hb12;have hr12':=hr12;(refine step_append_g knownRw (by simp [NRw]) _ (by rfl) _ _ (by rfl) w11.heap.size _ _ (by rfl) hr12 _ 1 1 [⟨kx,cx,some ⟨bx,0,none⟩,1,1,[z2]⟩] (by rfl) hsx (fun x hx=>trivial) ?_ ?_ hb12.size ?_);(focus (simp [hLj];unfold maxLen;omega));(focus (simp [hLj];omega));intro v13 w13 hr13 hg13;have hb13:=hb12'.grown hg13 hb12'.size (fun q e=>(hr12'.lt q e).1);have xx0:=HX0.out w13 hb13;have xx1:=HX1.out w13 hb13;have xx2:=HX2.out w13 hb13;have hsb:=(HRL11.out w13 hb13).srcBack t htj (some ⟨g,t*3,none⟩) (fun _=>rfl))
        | ((refine step_append_g knownRw (by simp [NRw]) _ (by rfl) _ _ (by rfl) w11.heap.size _ _ (by rfl) hr13 _ (j - t) _ (L.drop t) (by rfl) hsb (fun x hx=>trivial) ?_ ?_ hb13.size ?_);(focus (simp [hLj];unfold maxLen;omega));(focus (simp [hLj];omega));intro v14 w14 hr14 hg14;have hb14:=hb13.grown hg14 hb13.size (fun q e=>(hr13.lt q e).1);have xx0:=HX0.out w14 hb14;have xx1:=HX1.out w14 hb14;have xx2:=HX2.out w14 hb14)
        | fail)
       all_goals go_wp2
       all_goals go_meet
       all_goals (obtain ⟨pX,cX,rfl,hrX⟩:=rdr_more hr14 (n:=j+1) (by simp [hLj];omega) (hbod _ (by simp)) hb14)
       all_goals exact ⟨pX,cX,rfl,by simpa using hrX,hb14⟩
      ·obtain rfl:j=t:=by omega
       obtain rfl:j=cv:=by omega
       have hdr0:L.drop j=[]:=List.drop_of_length_le (by omega)
       go_region_held3 (fun w'=>w'.cell? ⟨G,0,none⟩=some (.int .i64 kx)∧w'.cell? ⟨G,1,none⟩=some (.bool cx)∧w'.cell? ⟨G,2,none⟩=some (.slice (some ⟨bx,0,none⟩) 1 1)) ((first | exact ⟨xx0,xx1,xx2⟩ | exact ⟨HX0.out _ HDR.out,HX1.out _ HDR.out,HX2.out _ HDR.out⟩ | exact ⟨HX0.out _ (hb12.alloc hb12.size _),HX1.out _ (hb12.alloc hb12.size _),HX2.out _ (hb12.alloc hb12.size _)⟩ | exact ⟨HX0.out _ (HDA.out _),HX1.out _ (HDA.out _),HX2.out _ (HDA.out _)⟩ | exact ⟨HX0.out _ (HAD.out _),HX1.out _ (HAD.out _),HX2.out _ (HAD.out _)⟩))
        (first
        | ((refine step_append_g knownRw (by simp [NRw]) _ (by rfl) _ _ (by rfl) w11.heap.size _ [] (by rfl) (RowG.nil KRw NRw _ w11.heap.size) _ j j (L.take j) (by rfl) (HSF.out _ HDR.out) (fun x hx=>trivial) ?_ ?_ HDR.out.size ?_);(focus (simp;unfold maxLen;omega));(focus (simp;omega));intro v12 w12 hr12 hg12;have hb12:=HDR.out.grown hg12 HDR.out.size (nob _);have xx0:=HX0.out w12 hb12;have xx1:=HX1.out w12 hb12;have xx2:=HX2.out w12 hb12)
        | ((refine step_append_g knownRw (by simp [NRw]) _ (by rfl) _ _ (by rfl) w11.heap.size _ [] (by rfl) (RowG.nil KRw NRw _ w11.heap.size) _ j j (L.take j) (by rfl) (HSF.out _ (HDA.out (.cells #[.int .i64 kx,.bool cx,.slice (some ⟨bx,0,none⟩) 1 1] 51))) (fun x hx=>trivial) ?_ ?_ (HDA.out (.cells #[.int .i64 kx,.bool cx,.slice (some ⟨bx,0,none⟩) 1 1] 51)).size ?_);(focus (simp;unfold maxLen;omega));(focus (simp;omega));intro v12 w12 hr12 hg12;have hb12:=(HDA.out (.cells #[.int .i64 kx,.bool cx,.slice (some ⟨bx,0,none⟩) 1 1] 51)).grown hg12 (HDA.out (.cells #[.int .i64 kx,.bool cx,.slice (some ⟨bx,0,none⟩) 1 1] 51)).size (nob _);have hsx:=HDAS.out.belowK (Below.grown (Below.refl _ _) hg12 (Nat.le_refl _) (nob _));have xx0:=HX0.out w12 hb12;have xx1:=HX1.out w12 hb12;have xx2:=HX2.out w12 hb12)
        | ((refine step_append_g knownRw (by simp [NRw]) _ (by rfl) _ _ (by rfl) w11.heap.size _ [] (by rfl) (RowG.nil KRw NRw _ w11.heap.size) _ j j (L.take j) (by rfl) (HSF.out _ (HAD.out (.cells #[.int .i64 kx,.bool cx,.slice (some ⟨bx,0,none⟩) 1 1] 51))) (fun x hx=>trivial) ?_ ?_ (HAD.out (.cells #[.int .i64 kx,.bool cx,.slice (some ⟨bx,0,none⟩) 1 1] 51)).size ?_);(focus (simp;unfold maxLen;omega));(focus (simp;omega));intro v12 w12 hr12 hg12;have hb12:=(HAD.out (.cells #[.int .i64 kx,.bool cx,.slice (some ⟨bx,0,none⟩) 1 1] 51)).grown hg12 (HAD.out (.cells #[.int .i64 kx,.bool cx,.slice (some ⟨bx,0,none⟩) 1 1] 51)).size (nob _);have hsx:=HADS.out.belowK (Below.grown (Below.refl _ _) hg12 (Nat.le_refl _) (nob _));have xx0:=HX0.out w12 hb12;have xx1:=HX1.out w12 hb12;have xx2:=HX2.out w12 hb12)
        | (have hb12':=hb12.alloc hb12.size (.cells #[.int .i64 kx,.bool cx,.slice (some ⟨bx,0,none⟩) 1 1] 51);have hr12':=hr12.alloc (.cells #[.int .i64 kx,.bool cx,.slice (some ⟨bx,0,none⟩) 1 1] 51);(refine step_append_g knownRw (by simp [NRw]) _ (by rfl) _ _ (by rfl) w11.heap.size _ _ (by rfl) (hr12.alloc (.cells #[.int .i64 kx,.bool cx,.slice (some ⟨bx,0,none⟩) 1 1] 51)) _ 1 1 [⟨kx,cx,some ⟨bx,0,none⟩,1,1,[z2]⟩] (by rfl) (srcRw w12 kx cx (some ⟨bx,0,none⟩) 1 1 [z2] 51) (fun x hx=>trivial) ?_ ?_ (by have:=hb12.size;simp;omega) ?_);(focus (simp [hLj];unfold maxLen;omega));(focus (simp [hLj];omega));intro v13 w13 hr13 hg13;have hb13:=hb12'.grown hg13 hb12'.size (fun q e=>(hr12'.lt q e).1);have xx0:=HX0.out w13 hb13;have xx1:=HX1.out w13 hb13;have xx2:=HX2.out w13 hb13;have hsb:=(⟨rfl,fun h9=>absurd h9 (by omega)⟩:SrcG KRw w13 (some ⟨g,0,none⟩) 0 []))
        | (have hb12':=hb12;have hr12':=hr12;(refine step_append_g knownRw (by simp [NRw]) _ (by rfl) _ _ (by rfl) w11.heap.size _ _ (by rfl) hr12 _ 1 1 [⟨kx,cx,some ⟨bx,0,none⟩,1,1,[z2]⟩] (by rfl) hsx (fun x hx=>trivial) ?_ ?_ hb12.size ?_);(focus (simp [hLj];unfold maxLen;omega));(focus (simp [hLj];omega));intro v13 w13 hr13 hg13;have hb13:=hb12'.grown hg13 hb12'.size (fun q e=>(hr12'.lt q e).1);have xx0:=HX0.out w13 hb13;have xx1:=HX1.out w13 hb13;have xx2:=HX2.out w13 hb13;have hsb:=(⟨rfl,fun h9=>absurd h9 (by omega)⟩:SrcG KRw w13 (some ⟨g,0,none⟩) 0 []))
        | ((refine step_append_g knownRw (by simp [NRw]) _ (by rfl) _ _ (by rfl) w11.heap.size _ _ (by rfl) hr13 _ 0 _ [] (by rfl) hsb (fun x hx=>trivial) ?_ ?_ hb13.size ?_);(focus (simp [hLj];unfold maxLen;omega));(focus (simp [hLj];omega));intro v14 w14 hr14 hg14;have hb14:=hb13.grown hg14 hb13.size (fun q e=>(hr13.lt q e).1);have xx0:=HX0.out w14 hb14;have xx1:=HX1.out w14 hb14;have xx2:=HX2.out w14 hb14)
        | fail)
       all_goals go_wp2
       all_goals go_meet
       all_goals (obtain ⟨pX,cX,rfl,hrX⟩:=rdr_more hr14 (n:=j+1) (by simp [hLj]) (hbod _ (by simp [hdr0])) hb14)
       all_goals exact ⟨pX,cX,rfl,by simpa [hdr0] using hrX,hb14⟩
    case rest =>
     obtain ⟨pA,cA,rfl,hrA,hbA⟩:=hcut
     have hRB:(L.take t++⟨kx,cx,some ⟨bx,0,none⟩,1,1,[z2]⟩ :: L.drop t).map RawP.raw=rs.take t++(⟨kx,cx,[z2]⟩:Raw) :: rs.drop t:=by
      rw [←HRS.out,List.map_append,List.map_cons,List.map_take,List.map_drop]
      rfl
     have hrl:rs.length=j:=by rw [←HRS.out,List.length_map];exact hLj
     have HOB:=hidden (HOK.out.more (by omega) t ⟨kx,cx,[z2]⟩ hkx rfl)
     have HEB:Hid (cx=true→errR (rs.take t++(⟨kx,cx,[z2]⟩:Raw) :: rs.drop t)=6):=hidden (fun hc=>errR_crit _ _ _ (unk_no hkx) hc (errR_front (rs.take t) (rs.drop t) (by rw [List.take_append_drop];exact HER.out)))
     have HES:Hid (cx=false→errR rs=errR (rs.take t++(⟨kx,cx,[z2]⟩:Raw) :: rs.drop t)):=hidden (fun hc=>by rw [errR_skip _ _ _ (unk_no hkx) hc,List.take_append_drop])
     have HKN:Hid (knownR rs=knownR (rs.take t++(⟨kx,cx,[z2]⟩:Raw) :: rs.drop t)):=hidden (by rw [knownR_skip _ _ _ (unk_no hkx),List.take_append_drop])
     have hrgB : ∀ y∈encC 0 (rs.take t++(⟨kx,cx,[z2]⟩:Raw) :: rs.drop t),0≤y∧y≤255:=encC_rng 0 _ (fun r hr=>by
      rw [←hRB] at hr
      obtain ⟨y,hy,rfl⟩:=List.mem_map.1 hr
      exact (hrA.bods y hy).rng)
     have HBC2:=hidden (rbuildC_any pA (j+1) cA _ 0 _ hrA (nextC 0 (rs.take t++(⟨kx,cx,[z2]⟩:Raw) :: rs.drop t)) (encC 0 (rs.take t++(⟨kx,cx,[z2]⟩:Raw) :: rs.drop t)) 0 (by rw [hRB];exact HOB.out.build))
     have HRZ2:=hidden HOB.out.read
     have hle2:=HOB.out.len
     have HRG2:=hidden hrgB
     unfold BuiltC at HBC2
     clear hRB hrgB
     generalize rs.take t++(⟨kx,cx,[z2]⟩:Raw) :: rs.drop t=rsB at *
     obtain ⟨K2,hK2⟩ : ∃ k,nextC 0 rsB=k:=⟨_,rfl⟩
     obtain ⟨X2,hX2⟩ : ∃ k,encC 0 rsB=k:=⟨_,rfl⟩
     rw [hK2] at HBC2 HRZ2
     rw [hX2] at HBC2 HRZ2 HRG2 hle2
     obtain ⟨N2,hN2⟩ : ∃ k,X2.length=k:=⟨_,rfl⟩
     rw [hN2] at hle2
     have HN2:=hidden hN2
     have HBA:=hidden hbA
     clear hrA hK2 hX2 hN2 HRL11 HXB11 HX0 HX2 HSF htjI hcv hLj HDR HPV HRB HRS hbA
     go_upto_region 20 with (first
      | (go_at_call 8;(with_reducible refine (HBC2.out).mono ?_);rintro e w14 ⟨v14,rfl,ho,hb⟩;obtain ⟨q14,d14,rfl,hy⟩:=ho.bytN rfl HN2.out HRG2.out;have HB14:=hidden (HBA.out.trans (hb.mono HBA.out.size));have HIN:=hidden (insideX i r nx x f m HX.out K2 q14 N2 d14 X2 w14 hy hle2 rsB HRZ2.out (fun y hy=>(HOB.out.el y hy).2.2));clear ho hb hy HBC2)
      | fail)
     obtain ⟨b0,b1,b2,b3,b4,b5,b6,-⟩:=HM11.out w14 HB14.out
     go_upto_region 21 with (first
      | (go_at_call 9;(with_reducible refine (HIN.out).mono ?_);rintro e w15 hX;obtain ⟨i2,r2,nx2,x2,f2,m2,q2,n2,d2,E2,rfl⟩:=hX.form;have HXC:=hidden (show ReadX w14 i r nx x f m rsB (msgRet i2 r2 nx2 x2 f2 m2 q2 n2 d2 E2) w15 from hX);have HB15:=hidden (HB14.out.trans (hX.1.mono HB14.out.size));clear hX HIN b0 b1 b2 b3 b4 b5 b6)
      | fail)
     have hmb:=MIn.new w15 i2 r2 nx2 x2 f2 m2 (.slice q2 n2 d2) 32
     have hal2:=(Below.refl w15.heap.size w15).alloc (Nat.le_refl _) (.cells #[.int .u64 i2,.int .u64 r2,.int .i64 nx2,.int .i64 x2,.int .i64 f2,.int .u32 m2,.slice q2 n2 d2] 32)
     generalize World.alloc w15 _=w16 at *
     have HB16:=hidden (HB15.out.trans (hal2.mono HB15.out.size))
     have hcb:=HX1.out w16 HB16.out
     have HBE:=hidden (HB11.out.trans (HB16.out.mono HB11.out.size))
     obtain ⟨G15,hG15⟩ : ∃ g,w15.heap.size=g:=⟨_,rfl⟩
     rw [hG15] at hmb ⊢
     cases cx with
     | true =>
      obtain rfl:=HXC.out.crit (HEB.out rfl)
      clear hmb hal2
      go_wp2
      go_ret
      exact ⟨rfl,HBE.out⟩
     | false =>
      obtain ⟨⟨rfl,rfl,rfl,rfl,rfl,rfl,rfl,rfl⟩,hn1,X,y1,y2,y3⟩:=HXA.out.same HXC.out (HES.out rfl) HKN.out (HKX.out w15 HB15.out) (by omega)
      have HSM:=hidden (rmsame_yes i1 r1 nx1 x1 f1 m1 X q1 q2 n1 d1 d2 w16 (y1.below hal2) (y2.below hal2) (fun t ht=>(y3 t ht).below hal2) hn1)
      obtain ⟨a0,a1,a2,a3,a4,a5,a6,-⟩:=HMA11.out w16 HB16.out
      obtain ⟨b0,b1,b2,b3,b4,b5,b6,-⟩:=hmb
      clear y1 y2 y3 hal2
      go_wp2_with (first
       | (go_at_call 11;(with_reducible refine (HSM.out).mono ?_);rintro e w17 ⟨rfl,hb⟩;have HB17:=hidden (HBE.out.trans (hb.mono HBE.out.size));clear hb)
       | fail)
      go_ret
      exact ⟨rfl,HB17.out⟩
end Go.Proofs.YtgpigjoonhghhaaGreat
