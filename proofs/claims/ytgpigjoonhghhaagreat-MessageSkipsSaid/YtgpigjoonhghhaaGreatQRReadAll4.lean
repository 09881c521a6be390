/-
 What the document's own reader of proposals, and its Parse, return for any bytes.
-/
import Derived.Test.YtgpigjoonhghhaaGreatQRRead4
import Derived.Test.YtgpigjoonhghhaaGreatQZ3
import Derived.Deep.RegionHeld3
import Derived.Deep.CutBlock
namespace Go.Proofs.YtgpigjoonhghhaaGreat
open Go.RowKit
set_option linter.unusedVariables false
theorem prs_round (xs:List Int) (n at_:Nat) (hl:xs.length=n) (h:at_<n) (l:List Pr) (L:Int) (hL:w2 xs (at_+2)=L) (S:Nat) (hS:xs.getD (at_+6) 0=S) (r:Option (List Pr)) (hr:(prsV (xs.drop at_)).map (l++·)=r) :
  r=if n - at_<8 then none else if L<8∨(n:Int) - at_<L then none
  else if xs.getD at_ 0≠(if (n:Int) - at_=L then 0 else 2)∨L<8+(S:Int) then none
  else match trsV ((xs.take (at_+L.toNat)).drop (at_+8+S)) with
   | none=>none
   | some ts=>if (ts.length:Int)≠xs.getD (at_+7) 0 then none
    else (prsV (xs.drop (at_+L.toNat))).map ((l++[⟨xs.getD (at_+4) 0,xs.getD (at_+5) 0,(xs.drop (at_+8)).take S,ts⟩])++·):=by
 have hd:(xs.drop at_).length=n - at_:=by simp [hl]
 rw [←hr,prsV_step _ (by omega)]
 simp only [w2_drop,getD_drop,List.drop_drop,hd,hL,hS,Nat.add_zero]
 have e:((n - at_:Nat):Int)=(n:Int) - at_:=by omega
 rw [e]
 split
 ·rfl
 split
 ·rfl
 have e2:(((xs.drop at_).take L.toNat).drop (8+(S:Int).toNat))=(xs.take (at_+L.toNat)).drop (at_+8+S):=by
  rw [List.take_drop,List.drop_drop,Int.toNat_natCast]
  congr 1
  omega
 rw [e2,Int.toNat_natCast]
 generalize (if (n:Int) - at_=L then (0:Int) else 2)=M
 by_cases hc:xs.getD at_ 0≠M∨L<8+(S:Int)
 ·rw [if_pos hc,if_pos hc]
  rfl
 ·rw [if_neg hc,if_neg hc]
  cases trsV ((xs.take (at_+L.toNat)).drop (at_+8+S)) with
  | none=>rfl
  | some ts =>
   simp only
   split
   ·rfl
   ·rw [Option.map_map]
    congr 1
    funext x
    simp
theorem grown_none_below {w w':World} (h:w.grownBy w' none):Below w.heap.size w w':=⟨h.os,h.tape,h.output,h.size,fun i hi=>h.block i hi (by simp)⟩
theorem OkN.alloc' {w:World} {base:Nat} {x:PrP} (h:OkN w base x) (o:Obj):OkN (w.alloc o) base x:=NPr.keep (w:=w) (row:=none) h (World.grownBy_alloc w o none) (OffT.none _ _ _)
theorem readp_none (w w':World) (r:Option (List Pr)) (hr:r=none) (hb:Below w.heap.size w w'):ReadP w r (.returned (.tuple #[.slice none 0 0,.bool false])) w':=by
 subst hr
 exact ⟨hb,rfl⟩
set_option maxHeartbeats 6400000 in
set_option maxRecDepth 100000 in
theorem rread_any (p:Option Addr) (n c:Nat) (xs:List Int) (w:World) (h:Byt w p n c xs) (hb:n≤1048576) (r:Option (List Pr)) (hr:prsV xs=r) :
  Calls Tryz.prog 62 #[.slice p n c] w (ReadP w r):=by
 obtain ⟨i0,hi0,hz0,hz1,hz2⟩:=info_parts Tryz.infoByte
 have hn:=h.le
 have HX:=hidden h
 have HLen:=hidden h.len
 have HR:=hidden hr
 clear h hr
 go_enter Tryz.func62,Tryz.ntmps62
 go_wp2
 go_loopw [4,5] (fun o a wr=>∃ (at_:Nat) (l:List PrP),a=.int .i64 at_∧at_≤n∧l.length*8≤at_∧(prsV (xs.drop at_)).map (l.map PrP.pr++·)=r∧RowG KPr NPr wr w.heap.size o l∧Below w.heap.size w wr) (fun _ a _=>n - (intOf a).toNat)
 case atStart=>exact ⟨0,[],rfl,by omega,by simp,by rw [List.drop_zero,HR.out];simp,RowG.nil _ _ _ _,Below.refl _ _⟩
 case round =>
  obtain ⟨at_,l,rfl,hat,hl8,hres,hrow,hbel⟩:=hrel
  obtain ⟨po,co,rfl⟩:=hrow.form rfl
  have HRW:=hidden hrow
  have HBL:=hidden hbel
  have HXw:=hidden (HX.out.below hbel)
  clear hrow hbel
  by_cases he:at_=n
  ·subst he
   rw [prsV_nil _ (by simp [HLen.out])] at hres
   simp at hres
   subst hres
   clear HR
   go_wp2
   go_ret2
   exact ⟨HBL.out,_,l,rfl,rfl,HRW.out⟩
  have hlt:at_<n:=by omega
  have hlt':(at_:Int)<n:=by omega
  obtain ⟨L,hL⟩ : ∃ L,w2 xs (at_+2)=L:=⟨_,rfl⟩
  have r6:=rng_getD HX.out.rng (at_+6)
  obtain ⟨S,hS⟩:=Int.eq_ofNat_of_zero_le r6.1
  rw [hS] at r6
  have hre:=prs_round xs n at_ HLen.out hlt (l.map PrP.pr) L hL S hS r hres
  clear hres he
  by_cases h8:n - at_<8
  ·rw [if_pos h8] at hre
   have h8':(n:Int) - at_<8:=by omega
   clear hL hS
   go_wp2
   go_ret2
   exact readp_none _ _ _ hre HBL.out
  rw [if_neg h8] at hre
  have h8':¬ (n:Int) - at_<8:=by omega
  have hLb:=w2_bd xs HX.out.rng (at_+2)
  rw [hL] at hLb
  have HW1:=hidden (word_at p n c xs _ HXw.out (at_+2) (by omega) ((at_:Int)+2) (by omega) L hL)
  by_cases hbad:L<8∨(n:Int) - at_<L
  ·rw [if_pos hbad] at hre
   have HRE:=hidden hre
   clear hL hS hre
   by_cases hb1:L<8
   ·clear hbad
    go_wp2_with (go_at_call 77;(with_reducible refine (HW1.out).mono ?_);rintro e w' ⟨rfl,rfl⟩)
    go_ret2
    exact readp_none _ _ _ HRE.out HBL.out
   ·have hb2:(n:Int) - at_<L:=by omega
    clear hbad
    go_wp2_with (go_at_call 77;(with_reducible refine (HW1.out).mono ?_);rintro e w' ⟨rfl,rfl⟩)
    go_ret2
    exact readp_none _ _ _ HRE.out HBL.out
  rw [if_neg hbad] at hre
  obtain ⟨m,rfl⟩:=Int.eq_ofNat_of_zero_le (show 0≤L by omega)
  have hm8:¬ (m:Int)<8:=by omega
  have hmn:¬ (n:Int) - at_<m:=by omega
  have hmm:8≤m:=by omega
  have hmk:at_+m≤n:=by omega
  have hcap:=HX.out.cap
  rw [Int.toNat_natCast] at hre
  obtain ⟨bb,o,rfl,hcell⟩:=HX.out.at_ (by omega)
  have hx0:=cell_below HBL.out _ _ (hcell at_ (by omega))
  have hx4:=cell_below HBL.out _ _ (hcell (at_+4) (by omega))
  have hx5:=cell_below HBL.out _ _ (hcell (at_+5) (by omega))
  have hx6:=cell_below HBL.out _ _ (hcell (at_+6) (by omega))
  have hx7:=cell_below HBL.out _ _ (hcell (at_+7) (by omega))
  rw [hS] at hx6
  have r0:=rng_getD HX.out.rng at_
  have r4:=rng_getD HX.out.rng (at_+4)
  have r5:=rng_getD HX.out.rng (at_+5)
  have r7:=rng_getD HX.out.rng (at_+7)
  have HRE:=hidden hre
  clear hre hbad hL hS hcell
  generalize xs.getD at_ 0=x0 at *
  generalize xs.getD (at_+4) 0=x4 at *
  generalize xs.getD (at_+5) 0=x5 at *
  generalize xs.getD (at_+7) 0=x7 at *
  obtain ⟨M,hM,hM'⟩ : ∃ M:Int,(if (n:Int) - at_=m then (0:Int) else 2)=M∧(((at_:Int)+m == n)=true∧M=0∨((at_:Int)+m == n)=false∧M=2):=by
   by_cases hh:at_+m=n
   ·exact ⟨0,by rw [if_pos (by omega)],Or.inl ⟨by simp;omega,rfl⟩⟩
   ·exact ⟨2,by rw [if_neg (by omega)],Or.inr ⟨by simp;omega,rfl⟩⟩
  have hre:=HRE.out
  rw [hM] at hre
  have HRE2:=hidden hre
  clear hre hM HRE
  have HX7:=hidden hx7
  have HX4:=hidden hx4
  have HX5:=hidden hx5
  have hwm:IntKind.i64.wrap ((at_:Int)+m)=(at_:Int)+m:=by rw [IntKind.wrap_i64];omega
  have hw6:IntKind.i64.wrap ((at_:Int)+6)=(at_:Int)+6:=by rw [IntKind.wrap_i64];omega
  have hws:IntKind.i64.wrap (S:Int)=S:=by rw [IntKind.wrap_i64];omega
  have hw8S:IntKind.i64.wrap (8+(S:Int))=8+(S:Int):=by rw [IntKind.wrap_i64];omega
  have hj6:((at_:Int)+6)<n:=by omega
  go_upto_if 39 with (first
   | (go_at_call 77;(with_reducible refine (HW1.out).mono ?_);rintro e w' ⟨rfl,rfl⟩)
   | fail)
  go_cut [7] from 34 to 39 (fun v wx=>v=.int .u8 M∧wr=wx)
  case first =>
   rcases hM' with ⟨hq,rfl⟩ | ⟨hq,rfl⟩
   all_goals
    go_wp2
    go_meet
    case rel=>exact ⟨rfl,rfl⟩
  case rest =>
   obtain ⟨rfl,rfl⟩:=hcut
   clear hM'
   by_cases hx:x0≠M
   ·have hr:=HRE2.out
    rw [if_pos (Or.inl hx)] at hr
    have HR0:=hidden hr
    have hx':(x0 != M)=true:=by simpa using hx
    clear hr HRE2 hx
    go_wp2_with fail
    go_ret2
    exact readp_none _ _ _ HR0.out HBL.out
   obtain rfl:x0=M:=by omega
   have hxx:(x0 != x0)=false:=by simp
   by_cases hs8:(m:Int)<8+(S:Int)
   ·have hr:=HRE2.out
    rw [if_pos (Or.inr hs8)] at hr
    have HR0:=hidden hr
    clear hr HRE2 hx
    go_wp2_with fail
    go_ret2
    exact readp_none _ _ _ HR0.out HBL.out
   have hr:=HRE2.out
   rw [if_neg (by rintro (h | h);exact hx h;exact hs8 h)] at hr
   have HR3:=hidden hr
   have hsm:8+S≤m:=by omega
   have hp:=HXw.out.part (at_+8+S) (at_+m) (by omega) hmk
   have hp2:=HXw.out.part (at_+8) (at_+8+S) (by omega) (by omega)
   rw [show (xs.take (at_+8+S)).drop (at_+8)=(xs.drop (at_+8)).take S by rw [List.drop_take];congr 1;omega,show at_+8+S - (at_+8)=S by omega] at hp2
   obtain ⟨ys,hys⟩ : ∃ ys,(xs.take (at_+m)).drop (at_+8+S)=ys:=⟨_,rfl⟩
   rw [hys] at hp
   obtain ⟨sv,hsv⟩ : ∃ sv,(xs.drop (at_+8)).take S=sv:=⟨_,rfl⟩
   rw [hsv] at hp2
   obtain ⟨tv,htv⟩ : ∃ tv,trsV ys=tv:=⟨_,rfl⟩
   have hr:=HR3.out
   rw [hys,htv,hsv] at hr
   have HR4:=hidden hr
   have HTV:=hidden htv
   have HSL:=hidden hp2.len
   have HSR:=hidden hp2.rng
   have HP:=hidden hp
   have HP2:=hidden hp2
   have hlast:(c=at_+8+S∧S=0)∨(c=at_+8+S∧0<S)∨c≠at_+8+S:=by omega
   have hj7:((at_:Int)+7)<n:=by omega
   have hj5:((at_:Int)+5)<n:=by omega
   have hj4:((at_:Int)+4)<n:=by omega
   have hw7:IntKind.i64.wrap ((at_:Int)+7)=(at_:Int)+7:=by rw [IntKind.wrap_i64];omega
   have hw4:IntKind.i64.wrap ((at_:Int)+4)=(at_:Int)+4:=by rw [IntKind.wrap_i64];omega
   have hw5:IntKind.i64.wrap ((at_:Int)+5)=(at_:Int)+5:=by rw [IntKind.wrap_i64];omega
   have hw8:IntKind.i64.wrap ((at_:Int)+8)=(at_:Int)+8:=by rw [IntKind.wrap_i64];omega
   have hw8s:IntKind.i64.wrap ((at_:Int)+8+S)=(at_:Int)+8+S:=by rw [IntKind.wrap_i64];omega
   have hwx7:IntKind.i64.wrap x7=x7:=by rw [IntKind.wrap_i64];omega
   have hwx4:IntKind.i64.wrap x4=x4:=by rw [IntKind.wrap_i64];omega
   have hwx5:IntKind.i64.wrap x5=x5:=by rw [IntKind.wrap_i64];omega
   have ha1:(0:Int)≤(at_:Int)+8+S:=by omega
   have ha2:(at_:Int)+8+S≤(at_:Int)+m:=by omega
   have ha3:(at_:Int)+m≤c:=by omega
   have ha4:((at_:Int)+8+S).toNat=at_+8+S:=by omega
   have ha5:((at_:Int)+m).toNat=at_+m:=by omega
   have ha6:(0:Int)≤(at_:Int)+8:=by omega
   have ha7:(at_:Int)+8≤(at_:Int)+8+S:=by omega
   have ha8:(at_:Int)+8+S≤c:=by omega
   have ha9:((at_:Int)+8).toNat=at_+8:=by omega
   have hb7:(0:Int)≤(at_:Int)+7:=by omega
   have hb5:(0:Int)≤(at_:Int)+5:=by omega
   have hb4:(0:Int)≤(at_:Int)+4:=by omega
   have ht7:((at_:Int)+7).toNat=at_+7:=by omega
   have ht5:((at_:Int)+5).toNat=at_+5:=by omega
   have ht4:((at_:Int)+4).toNat=at_+4:=by omega
   go_upto_region 15 with fail
   clear hp hp2 hr HR3 HRE2 hys hsv htv hx hx4 hx5 hx6 hx0
   have hz65:m≤65535:=by omega
   have HX7D:Hid (wr.drew.cell? ⟨bb,o+(at_+7),none⟩=some (.int .u8 x7)):=hidden hx7
   clear hx7
   obtain ⟨bp,hbp⟩ : ∃ z,(if c=at_+8 then (some ⟨bb,o,none⟩:Option Addr) else some ⟨bb,o+(at_+8),none⟩)=z:=⟨_,rfl⟩
   obtain ⟨bq,hbq⟩ : ∃ z,(if c=at_+8+S then (some ⟨bb,o,none⟩:Option Addr) else some ⟨bb,o+(at_+8+S),none⟩)=z:=⟨_,rfl⟩
   rw [Option.map_some,WideShapes.add_plain,hbq] at HP
   rw [Option.map_some,WideShapes.add_plain,hbp] at HP2
   clear hlast
   have HPD:=hidden (HP.out.below (w':=wr.drew) (drew_below ⟨1,rfl⟩))
   cases tv with
   | none =>
    have HR5:=hidden HR4.out
    go_region_held3 (fun w'=>w'.cell? ⟨bb,o+(at_+7),none⟩=some (.int .u8 x7)) (first | exact HX7D.out | exact cell_below hbA _ _ HX7.out | go_keep)
     ((go_at_call 78;(with_reducible refine (transforms_any _ _ _ ys _ HPD.out (by omega) x7 none HTV.out).mono ?_);rintro e wA ⟨hbA,hh⟩;subst hh))
    all_goals
     have HBA:=hidden (HBL.out.trans ((drew_below (B:=w.heap.size) (w:=wr) (w':=wr.drew) ⟨1,rfl⟩).trans (hbA.mono HBL.out.size)))
     clear hbA
     go_wp2
     go_ret2
     exact readp_none _ _ _ HR5.out HBA.out
   | some ts =>
    by_cases hcn:(ts.length:Int)=x7
    ·have hcb:((ts.length:Int) == x7)=true:=by simpa using hcn
     have hr:=HR4.out
     simp only at hr
     rw [if_neg (by simpa using hcn)] at hr
     have HR5:=hidden hr
     have htl:ts.length≤255:=by omega
     clear hr hcn HR4
     go_region_held3 (fun w'=>w'.cell? ⟨bb,o+(at_+7),none⟩=some (.int .u8 x7)) (first | exact HX7D.out | exact cell_below hbA _ _ HX7.out | go_keep)
      ((go_at_call 78;(with_reducible refine (transforms_any _ _ _ ys _ HPD.out (by omega) x7 (some ts) HTV.out).mono ?_);rintro e wA ⟨hbA,vt,rfl,hrt⟩;rw [hcb];obtain ⟨tp,tc,rfl⟩:=hrt.form rfl))
     all_goals
      have hBA:=(drew_below (B:=w.heap.size) (w:=wr) (w':=wr.drew) ⟨1,rfl⟩).trans (hbA.mono HBL.out.size)
      have HBA:=hidden (HBL.out.trans hBA)
      have hbr:Below wr.heap.size wr wA:=(drew_below ⟨1,rfl⟩).trans hbA
      have HRT:=hidden (hrt.mono (show w.heap.size≤wr.drew.heap.size from HBL.out.size))
      have HRWA:=hidden (HRW.out.below hbr)
      have HP2A:=hidden (HP2.out.below hbr)
      have e4:=cell_below hbr _ _ HX4.out
      have e5:=cell_below hbr _ _ HX5.out
      clear hbA hBA hbr hrt hcb HPD HP HTV HX7 HX4 HX5
      have hbb:=HX.out.lt (by omega)
      go_upto_region 18 with fail
      have HK:=hidden (fun wx (hb:Below wA.heap.size wA wx)=>And.intro (cell_below hb _ _ e4) (cell_below hb _ _ e5))
      have HDD:=hidden (show Below wA.heap.size wA wA.drew from drew_below ⟨1,rfl⟩)
      have HP2D:=hidden (HP2A.out.below (w':=wA.drew) HDD.out)
      clear e4 e5
      go_region_held3 (fun w'=>w'.cell? ⟨bb,o+(at_+4),none⟩=some (.int .u8 x4)∧w'.cell? ⟨bb,o+(at_+5),none⟩=some (.int .u8 x5)) (first | exact HK.out _ HDD.out | exact HK.out _ HB1.out | exact HK.out _ (HB1.out.alloc HB1.out.size _) | exact hS | go_keep)
       (first
       | (refine step_append_byt _ (by rfl) _ _ 22 (by rfl) wA.heap.size 5 i0 (.int .u8 0) Tryz.underlying22 hi0 hz0 hz1 hz2 rfl _ [] (by rfl) (Own.nil _ _ _) _ _ _ _ sv (by rfl) HP2D.out (by rfl) (by rw [List.length_nil];omega) (Nat.le_refl _) ?_;intro v1 wB ho1 hg1;obtain ⟨sp,sc,rfl,hbod⟩:=Own.bod (n:=S) ho1 HSL.out HSR.out;have hB1:=HDD.out.trans (grown_none_below hg1);have HB1:=hidden hB1;have HRB:=hidden (HRWA.out.below hB1);have HYB:Hid (OkN wB w.heap.size ⟨x4,x5,sp,S,sc,sv,tp,ts.length,tc,ts⟩):=hidden ⟨⟨⟨by show -9223372036854775808≤x4;omega,by show x4≤9223372036854775807;omega⟩,⟨by show -9223372036854775808≤x5;omega,by show x5≤9223372036854775807;omega⟩⟩,hbod.mono HBA.out.size,HRT.out.below hB1⟩;clear ho1 hg1 hB1 hbod)
       | (refine step_append_g knownPr (by simp [NPr,KPr]) _ (by rfl) _ _ (by rfl) w.heap.size _ l (by rfl) (HRB.out.alloc _) _ 1 1 [⟨x4,x5,sp,S,sc,sv,tp,ts.length,tc,ts⟩] (by rfl) (srcPr wB ⟨x4,x5,sp,S,sc,sv,tp,ts.length,tc,ts⟩ _) (fun x hx=>by rw [List.mem_singleton.1 hx];exact OkN.alloc' HYB.out _) (by unfold maxLen;omega) (by omega) (by have:=HBA.out.size;have:=HB1.out.size;simp;omega) ?_;intro v2 wC hr2 hg2;have hS:=And.intro (hg2.cell (HK.out _ (HB1.out.alloc HB1.out.size (.cells #[.int .i64 x4,.int .i64 x5,.slice sp S sc,.slice tp ts.length tc] 115))).1 (fun e=>by have:=(HRB.out.lt bb e.symm).1;omega)) (hg2.cell (HK.out _ (HB1.out.alloc HB1.out.size (.cells #[.int .i64 x4,.int .i64 x5,.slice sp S sc,.slice tp ts.length tc] 115))).2 (fun e=>by have:=(HRB.out.lt bb e.symm).1;omega)))
       | fail)
      all_goals
       have HBB:=HBA.out.trans (HB1.out.mono HBA.out.size)
       have HB3:=hidden ((HBB.alloc HBB.size (.cells #[.int .i64 x4,.int .i64 x5,.slice sp S sc,.slice tp ts.length tc] 115)).grown hg2 (by have:=HBB.size;simp;omega) (fun g hg=>(HRB.out.lt g hg).1))
       have HR3:=hidden hr2
       clear hr2 hg2 hS HBB
       go_wp2
       go_roundw
       case rel =>
        refine ⟨at_+m,l++[⟨x4,x5,sp,S,sc,sv,tp,ts.length,tc,ts⟩],by go_num,by omega,by simp;omega,?_,HR3.out,HB3.out⟩
        rw [HR5.out]
        simp [PrP.pr]
       case measure =>
        simp [intOf]
        omega
    ·have hcb:((ts.length:Int) == x7)=false:=by simpa using hcn
     have hr:=HR4.out
     simp only at hr
     rw [if_pos (by simpa using hcn)] at hr
     have HR5:=hidden hr
     clear hr hcn HR4
     go_region_held3 (fun w'=>w'.cell? ⟨bb,o+(at_+7),none⟩=some (.int .u8 x7)) (first | exact HX7D.out | exact cell_below hbA _ _ HX7.out | go_keep)
      ((go_at_call 78;(with_reducible refine (transforms_any _ _ _ ys _ HPD.out (by omega) x7 (some ts) HTV.out).mono ?_);rintro e wA ⟨hbA,vt,rfl,hrt⟩;rw [hcb]))
     all_goals
      have HBA:=hidden (HBL.out.trans ((drew_below (B:=w.heap.size) (w:=wr) (w':=wr.drew) ⟨1,rfl⟩).trans (hbA.mono HBL.out.size)))
      clear hbA hrt
      go_wp2
      go_ret2
      exact readp_none _ _ _ HR5.out HBA.out
end Go.Proofs.YtgpigjoonhghhaaGreat
