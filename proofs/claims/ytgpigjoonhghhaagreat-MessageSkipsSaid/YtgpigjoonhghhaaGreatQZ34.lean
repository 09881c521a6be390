/-
 Codes.Payload, a type at a time.
 Codes.Payload, a type at a time.
-/
import Derived.Test.YtgpigjoonhghhaaGreatQZ7
namespace Go.Proofs.YtgpigjoonhghhaaGreat
open Go.RowKit
set_option linter.unusedVariables false
set_option maxHeartbeats 3200000 in
set_option maxRecDepth 100000 in
theorem mkpay39 (W w:World) (k:Nat) (h:Cod W w k):Calls Tryz.prog 15 #[.pointer (some ⟨k,0,none⟩),.int .i64 39] w (MadePv W w k 39):=by
 have hk:=h.lt
 have hbase:=h.bel.size
 have H0:=hidden (PyS.new h 39)
 clear h
 go_enter Tryz.func15,Tryz.ntmps15
 go_upto_region 2 with fail
 generalize hw0:(w.alloc (.cells #[.int .i64 0,.slice none 0 0,.int .i64 0,.slice none 0 0,.int .i64 0,.slice none 0 0,.int .i64 0,.slice none 0 0,.int .i64 0,.slice none 0 0,.int .i64 0,.slice none 0 0,.int .i64 0,.slice none 0 0,.slice none 0 0,.slice none 0 0] 49)).alloc (.cells #[.int .i64 39,.slice none 0 0,.int .i64 0,.slice none 0 0,.int .i64 0,.slice none 0 0,.int .i64 0,.slice none 0 0,.int .i64 0,.slice none 0 0,.int .i64 0,.slice none 0 0,.int .i64 0,.slice none 0 0,.slice none 0 0,.slice none 0 0] 49)=w0 at *
 clear hw0
 have hk0:k<w0.heap.size:=by have:=H0.out.ge;omega
 go_upto_region 2 with fail
 go_upto_block 0 with fail
 go_cut [] from 9 to 114 (fun wx=>∃ (t:Int) (p:Option Addr) (n c:Nat) (ys:List Int),PyS W w wx k ⟨39,nilV,0,nilV,0,nilV,t,⟨p,n,c⟩,0,nilV,0,nilV,0,nilV,nilV,nilV⟩∧(0≤t∧t≤65535)∧((t=2∨t=14)∧1≤n∧n≤100)∧∀ w',Kpt wx w' (w.heap.size+2)→Byt w' p n c ys)
 case first =>
  go_wp2_with fail
  go_region_law (first
   | (go_simp;go_at_call_of 10 (Value.int IntKind.i64 2);(with_reducible refine (next_pa H0 hk _ ?_ _ ?_).mono ?_);(repeat' (first | with_reducible exact H0.out | (with_reducible refine PyS.alloc ?_ _) | (with_reducible refine PyS.drew ?_)));omega;rintro e wA ⟨j,rfl,j0,j1,hdA,hgA⟩;obtain ⟨j,rfl⟩:=Int.eq_ofNat_of_zero_le j0;obtain ⟨t,hta,htl,t0,t1,tv⟩:=lst39 j (by omega);(try have hcA:wA.cell? ⟨w0.heap.size,j,none⟩=some (.int .i64 t):=row_cell w0 wA k _ _ j _ htl hk0 (grown_trans (grown_drewN _ 1 _) hgA)))
   | (go_simp;go_at_call_of 10 (Value.int IntKind.i64 20);(with_reducible refine (next_pa H0 hk _ ?_ _ ?_).mono ?_);(first | exact hdA | exact hdA.alloc _);omega;rintro e wB ⟨v,rfl,v0,v1,hdB,hgB⟩;obtain ⟨v,rfl⟩:=Int.eq_ofNat_of_zero_le v0;have hwv:IntKind.i64.wrap (1+(v:Int))=((1+v:Nat):Int):=(by rw [IntKind.wrap_i64];omega);have hkA:=hdA.cod.lt;(try have hcB:wB.cell? ⟨w0.heap.size,j,none⟩=some (.int .i64 t):=hgB.cell hcA (by simp;omega));(try have hcC:wB.cell? ⟨wA.heap.size,j,none⟩=some (.int .i64 t):=row_cell wA wB k _ _ j _ htl hkA hgB))
   | (go_simp;go_at_call 34;(refine (bytes_pa H0 hk _ ?_ (1+v) ?_).mono ?_);(first | exact hdB | exact hdB.alloc _);omega;rintro e wY ⟨p,c,ys,rfl,hbY,hdY,hgY⟩;have hkB:=hdB.cod.lt;(try have hcY1:wY.cell? ⟨w0.heap.size,j,none⟩=some (.int .i64 t):=hgY.cell hcB (by simp;omega));(try have hcY2:wY.cell? ⟨wA.heap.size,j,none⟩=some (.int .i64 t):=hgY.cell hcC (by simp;omega));(try have hcY3:wY.cell? ⟨wB.heap.size,j,none⟩=some (.int .i64 t):=row_cell wB wY k _ _ j _ htl hkB hgY);have hn1:¬ w.heap.size+1=wY.heap.size:=(by have:=hdY.ge;omega);have hn2:¬ w.heap.size=wY.heap.size:=(by have:=hdY.ge;omega);have hn3:¬ wY.heap.size=w.heap.size+1:=(by have:=hdY.ge;omega);have hn4:¬ wY.heap.size=w.heap.size:=(by have:=hdY.ge;omega);have hq1:w.heap.size+1<wY.heap.size:=(by have:=hdY.ge;omega);have hq2:w.heap.size<wY.heap.size:=(by have:=hdY.ge;omega);have s6:=hdY.S.c6;have s7:=hdY.S.c7;have sf:=hdY.S.fr;simp only [zeroP,nilV] at s6 s7;have HDY:=hidden hdY;have HBY:=hidden hbY;clear hdY hbY))
  all_goals
   clear s6 s7 sf
   go_wp2
   go_meet
  all_goals first
   | (have q:=hcY1;clear q;exact ⟨t,p,(1+v),c,ys,(HDY.out.put hk hbase (wy:=((wY.setCell ⟨w.heap.size+1,6,none⟩ (.int .i64 t)).setCell ⟨w.heap.size+1,7,none⟩ (.slice p (1+v) c))) (grown_trans (grown_set _ _ _ _) (grown_set _ _ _ _)) (x':=⟨39,nilV,0,nilV,0,nilV,t,⟨p,(1+v),c⟩,0,nilV,0,nilV,0,nilV,nilV,nilV⟩) (HDY.out.S.setA t ⟨p,(1+v),c⟩)),⟨t0,t1⟩,⟨tv,by omega,by omega⟩,fun w' hk'=>HBY.out.kp (((Kpt.low (grown_set _ _ _ _) (by omega)).trans (Kpt.low (grown_set _ _ _ _) (by omega))).trans hk')⟩)
   | (have q:=hcY2;clear q;exact ⟨t,p,(1+v),c,ys,(HDY.out.put hk hbase (wy:=((wY.setCell ⟨w.heap.size+1,6,none⟩ (.int .i64 t)).setCell ⟨w.heap.size+1,7,none⟩ (.slice p (1+v) c))) (grown_trans (grown_set _ _ _ _) (grown_set _ _ _ _)) (x':=⟨39,nilV,0,nilV,0,nilV,t,⟨p,(1+v),c⟩,0,nilV,0,nilV,0,nilV,nilV,nilV⟩) (HDY.out.S.setA t ⟨p,(1+v),c⟩)),⟨t0,t1⟩,⟨tv,by omega,by omega⟩,fun w' hk'=>HBY.out.kp (((Kpt.low (grown_set _ _ _ _) (by omega)).trans (Kpt.low (grown_set _ _ _ _) (by omega))).trans hk')⟩)
   | (have q:=hcY3;clear q;exact ⟨t,p,(1+v),c,ys,(HDY.out.put hk hbase (wy:=((wY.setCell ⟨w.heap.size+1,6,none⟩ (.int .i64 t)).setCell ⟨w.heap.size+1,7,none⟩ (.slice p (1+v) c))) (grown_trans (grown_set _ _ _ _) (grown_set _ _ _ _)) (x':=⟨39,nilV,0,nilV,0,nilV,t,⟨p,(1+v),c⟩,0,nilV,0,nilV,0,nilV,nilV,nilV⟩) (HDY.out.S.setA t ⟨p,(1+v),c⟩)),⟨t0,t1⟩,⟨tv,by omega,by omega⟩,fun w' hk'=>HBY.out.kp (((Kpt.low (grown_set _ _ _ _) (by omega)).trans (Kpt.low (grown_set _ _ _ _) (by omega))).trans hk')⟩)
   | (exact ⟨t,p,(1+v),c,ys,(HDY.out.put hk hbase (wy:=((wY.setCell ⟨w.heap.size+1,6,none⟩ (.int .i64 t)).setCell ⟨w.heap.size+1,7,none⟩ (.slice p (1+v) c))) (grown_trans (grown_set _ _ _ _) (grown_set _ _ _ _)) (x':=⟨39,nilV,0,nilV,0,nilV,t,⟨p,(1+v),c⟩,0,nilV,0,nilV,0,nilV,nilV,nilV⟩) (HDY.out.S.setA t ⟨p,(1+v),c⟩)).alloc _,⟨t0,t1⟩,⟨tv,by omega,by omega⟩,fun w' hk'=>HBY.out.kp ((((Kpt.low (grown_set _ _ _ _) (by omega)).trans (Kpt.low (grown_set _ _ _ _) (by omega))).trans (Kpt.alloc _ _ _)).trans hk')⟩)
 case rest =>
  obtain ⟨t,p,n,c,ys,hd,ht,hv,hy⟩:=hcut
  have HV:=hidden hv
  clear hv
  have H2:=hidden hd
  have HY:=hidden hy
  have HT:=hidden ht
  rename World=>w2
  clear hd hy ht
  obtain ⟨y0,y1,y2,y3,y4,y5,y6,y7,y8,y9,y10,y11,y12,y13,y14,y15,z0_,z1_,z2_,z3_,z4_,z5_,z6_,z7_,z8_,z9_,z10_,z11_,z12_,z13_,z14_,z15_,zf⟩:=H2.out.R.any
  obtain ⟨s0,s1,s2,s3,s4,s5,s6,s7,s8,s9,s10,s11,s12,s13,s14,s15,sf⟩:=H2.out.S
  simp only [nilV] at s0 s1 s2 s3 s4 s5 s6 s7 s8 s9 s10 s11 s12 s13 s14 s15
  go_wp2
  have hz:=H2.out.ret hk hbase (wy:=w2) (grown_refl _ _) ⟨39,nilV,0,nilV,0,nilV,t,⟨p,n,c⟩,0,nilV,0,nilV,0,nilV,nilV,nilV⟩
  simp only [setPv,nilV] at hz
  exact ret_pv1 (g:=w.heap.size) rfl rfl rfl hz.1 (made_plain (C:={ C0 with ad:=ys }) rfl rfl rfl (fun w' hk'=>⟨rdg_nil _ _ _,byt_nil _,byt_nil _,HY.out w' hk',byt_nil _,byt_nil _,rdg_nil _ _ _,rdg_nil _ _ _,byt_nil _⟩) hz.2.1 hz.2.2.1 hz.2.2.2 ((vld39 rfl).2 HV.out))
end Go.Proofs.YtgpigjoonhghhaaGreat

namespace Go.Proofs.YtgpigjoonhghhaaGreat
open Go.RowKit
set_option linter.unusedVariables false
set_option maxHeartbeats 3200000 in
set_option maxRecDepth 100000 in
theorem mkpay42 (W w:World) (k:Nat) (h:Cod W w k):Calls Tryz.prog 15 #[.pointer (some ⟨k,0,none⟩),.int .i64 42] w (MadePv W w k 42):=by
 have hk:=h.lt
 have hbase:=h.bel.size
 have H0:=hidden (PyS.new h 42)
 clear h
 go_enter Tryz.func15,Tryz.ntmps15
 go_upto_region 2 with fail
 generalize hw0:(w.alloc (.cells #[.int .i64 0,.slice none 0 0,.int .i64 0,.slice none 0 0,.int .i64 0,.slice none 0 0,.int .i64 0,.slice none 0 0,.int .i64 0,.slice none 0 0,.int .i64 0,.slice none 0 0,.int .i64 0,.slice none 0 0,.slice none 0 0,.slice none 0 0] 49)).alloc (.cells #[.int .i64 42,.slice none 0 0,.int .i64 0,.slice none 0 0,.int .i64 0,.slice none 0 0,.int .i64 0,.slice none 0 0,.int .i64 0,.slice none 0 0,.int .i64 0,.slice none 0 0,.int .i64 0,.slice none 0 0,.slice none 0 0,.slice none 0 0] 49)=w0 at *
 clear hw0
 have hk0:k<w0.heap.size:=by have:=H0.out.ge;omega
 go_upto_if 112 with (first
  | (go_at_call 10;(with_reducible refine (next_ps (((H0.out.alloc _).alloc _).alloc _) hk _ ?_).mono ?_);omega;rintro e w1 ⟨r,rfl,r0,r1,hd,hg⟩;obtain ⟨r,rfl⟩:=Int.eq_ofNat_of_zero_le r0;have H1:=hidden hd;have HSB:=hidden (two_sb w0 w1 k hk0 hg (w.heap.size+2) H0.out.ge);have hwr:IntKind.i64.wrap (1+(r:Int))=1+(r:Int):=(by rw [IntKind.wrap_i64];omega);have hq1:(0:Int)≤1+(r:Int):=(by omega);have hq2:1+(r:Int)≤2:=(by omega);have hq3:(1+(r:Int)).toNat=1+r:=(by omega);have s12:=hd.S.c12;have s13:=hd.S.c13;have sf:=hd.S.fr;simp only [zeroP,nilV] at s12 s13;clear hd hg H0)
  | (go_at_call 10;(refine (next_ps (H1.out.put hk hbase (wy:=((w1.setCell ⟨w.heap.size+1,12,none⟩ (.int .i64 3)).setCell ⟨w.heap.size+1,13,none⟩ (.slice (some ⟨w0.heap.size+1+1,0,none⟩) (1+r) 2))) (grown_trans (grown_set _ _ _ _) (grown_set _ _ _ _)) (x':=⟨42,nilV,0,nilV,0,nilV,0,nilV,0,nilV,0,nilV,3,⟨some ⟨w0.heap.size+1+1,0,none⟩,1+r,2⟩,nilV,nilV⟩) (H1.out.S.setD 3 ⟨some ⟨w0.heap.size+1+1,0,none⟩,1+r,2⟩)) hk _ ?_).mono ?_);omega;rintro e w2 ⟨q,rfl,q0,q1,hd,hg⟩;have H2:=hidden hd;have HSB2:=hidden (fun w'' (hk2:Kpt w2 w'' (w.heap.size+2))=>HSB.out w'' (((Kpt.low (grown_set w1 (w.heap.size+1) 12 (.int .i64 3)) (by omega)).trans ((Kpt.low (grown_set _ _ 13 (.slice (some ⟨w0.heap.size+1+1,0,none⟩) (1+r) 2)) (by omega)).trans (Kpt.low hg (by omega)))).trans hk2));clear hd hg H1 HSB s12 s13 sf;obtain ⟨y0,y1,y2,y3,y4,y5,y6,y7,y8,y9,y10,y11,y12,y13,y14,y15,z0_,z1_,z2_,z3_,z4_,z5_,z6_,z7_,z8_,z9_,z10_,z11_,z12_,z13_,z14_,z15_,zf⟩:=H2.out.R.any;obtain ⟨s0,s1,s2,s3,s4,s5,s6,s7,s8,s9,s10,s11,s12,s13,s14,s15,sf⟩:=H2.out.S;simp only [nilV] at s0 s1 s2 s3 s4 s5 s6 s7 s8 s9 s10 s11 s12 s13 s14 s15)
  | fail)
 by_cases hq:q=1
 ·subst hq
  go_wp2
  have hz:=H2.out.ret hk hbase (wy:=((w2.setCell ⟨w.heap.size+1,12,none⟩ (.int .i64 1)).setCell ⟨w.heap.size+1,13,none⟩ (.slice none 0 0))) (grown_trans (grown_set _ _ _ _) (grown_set _ _ _ _)) ⟨42,nilV,0,nilV,0,nilV,0,nilV,0,nilV,0,nilV,1,nilV,nilV,nilV⟩
  simp only [setPv,nilV] at hz
  exact ret_pv1 (g:=w.heap.size) rfl rfl rfl hz.1 (made_plain (C:=C0) rfl rfl rfl (fun w' hk'=>⟨rdg_nil _ _ _,byt_nil _,byt_nil _,byt_nil _,byt_nil _,byt_nil _,rdg_nil _ _ _,rdg_nil _ _ _,byt_nil _⟩) hz.2.1 hz.2.2.1 hz.2.2.2 ((vld42 rfl).2 (Or.inl ⟨rfl,rfl⟩)))
 ·have hq':(q == 1)=false:=by simpa using hq
  clear hq
  go_wp2
  have hz:=H2.out.ret hk hbase (wy:=w2) (grown_refl _ _) ⟨42,nilV,0,nilV,0,nilV,0,nilV,0,nilV,0,nilV,3,⟨some ⟨w0.heap.size+1+1,0,none⟩,1+r,2⟩,nilV,nilV⟩
  simp only [setPv,nilV] at hz
  exact ret_pv1 (g:=w.heap.size) rfl rfl rfl hz.1 (made_plain (C:={ C0 with ds:=([⟨some ⟨w0.heap.size,0,none⟩,4,4,[1,2,3,4]⟩,⟨some ⟨w0.heap.size+1,0,none⟩,4,4,[1,2,3,5]⟩]:List Sb).take (1+r) }) rfl rfl rfl (fun w' hk'=>⟨rdg_nil _ _ _,byt_nil _,byt_nil _,byt_nil _,byt_nil _,byt_nil _,(HSB2.out w' hk').front (1+r) (by omega),rdg_nil _ _ _,byt_nil _⟩) hz.2.1 hz.2.2.1 hz.2.2.2 ((vld42 rfl).2 (Or.inr ⟨rfl,by have hrr:r=0∨r=1:=(by omega);rcases hrr with rfl | rfl;exact Or.inl rfl;exact Or.inr rfl⟩)))
end Go.Proofs.YtgpigjoonhghhaaGreat
