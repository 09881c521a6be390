/-
 Codes.Payload, a type at a time.
-/
import Derived.Test.YtgpigjoonhghhaaGreatQZ7
namespace Go.Proofs.YtgpigjoonhghhaaGreat
open Go.RowKit
set_option linter.unusedVariables false
set_option maxHeartbeats 3200000 in
set_option maxRecDepth 100000 in
theorem mkpay41 (W w:World) (k:Nat) (h:Cod W w k):Calls Tryz.prog 15 #[.pointer (some ⟨k,0,none⟩),.int .i64 41] w (MadePv W w k 41):=by
 have hk:=h.lt
 have hbase:=h.bel.size
 have H0:=hidden (PyS.new h 41)
 clear h
 go_enter Tryz.func15,Tryz.ntmps15
 go_upto_region 2 with fail
 generalize hw0:(w.alloc (.cells #[.int .i64 0,.slice none 0 0,.int .i64 0,.slice none 0 0,.int .i64 0,.slice none 0 0,.int .i64 0,.slice none 0 0,.int .i64 0,.slice none 0 0,.int .i64 0,.slice none 0 0,.int .i64 0,.slice none 0 0,.slice none 0 0,.slice none 0 0] 49)).alloc (.cells #[.int .i64 41,.slice none 0 0,.int .i64 0,.slice none 0 0,.int .i64 0,.slice none 0 0,.int .i64 0,.slice none 0 0,.int .i64 0,.slice none 0 0,.int .i64 0,.slice none 0 0,.int .i64 0,.slice none 0 0,.slice none 0 0,.slice none 0 0] 49)=w0 at *
 clear hw0
 have hk0:k<w0.heap.size:=by have:=H0.out.ge;omega
 go_upto_block 0 with fail
 go_cut [] from 9 to 114 (fun wx=>∃ (a t:Int) (p q:Option Addr) (n c m d:Nat) (ys us:List Int),(0≤t∧t≤65535∧n≤100∧m≤100∧((a=0∧m=0)∨(a=3∧m=4)))∧PyS W w wx k ⟨41,nilV,0,nilV,0,nilV,0,nilV,a,⟨q,m,d⟩,t,⟨p,n,c⟩,0,nilV,nilV,nilV⟩∧(∀ w',Kpt wx w' (w.heap.size+2)→Byt w' p n c ys)∧∀ w',Kpt wx w' (w.heap.size+2)→Byt w' q m d us)
 case first =>
  go_upto_region 19 with fail
  go_cut [] from 79 to 89 (fun wx=>∃ (t:Int) (p:Option Addr) (n c:Nat) (ys:List Int),(0≤t∧t≤65535∧n≤100)∧PyS W w wx k ⟨41,nilV,0,nilV,0,nilV,0,nilV,0,nilV,t,⟨p,n,c⟩,0,nilV,nilV,nilV⟩∧∀ w',Kpt wx w' (w.heap.size+2)→Byt w' p n c ys)
  case first =>
   go_wp2_with fail
   go_region_law (first
    | (go_simp;go_at_call_of 10 (Value.int IntKind.i64 5);(with_reducible refine (next_pa H0 hk _ ?_ _ ?_).mono ?_);(repeat' (first | with_reducible exact H0.out | (with_reducible refine PyS.alloc ?_ _) | (with_reducible refine PyS.drew ?_)));omega;rintro e wA ⟨j,rfl,j0,j1,hdA,hgA⟩;obtain ⟨j,rfl⟩:=Int.eq_ofNat_of_zero_le j0;obtain ⟨t,hta,htl,t0,t1,tv⟩:=lst41 j (by omega);(try have hcA:wA.cell? ⟨w0.heap.size,j,none⟩=some (.int .i64 t):=row_cell w0 wA k _ _ j _ htl hk0 (grown_trans (grown_drewN _ 1 _) hgA)))
    | (go_simp;go_at_call_of 10 (Value.int IntKind.i64 6);(with_reducible refine (next_pa H0 hk _ ?_ _ ?_).mono ?_);(first | exact hdA | exact hdA.alloc _);omega;rintro e wB ⟨v,rfl,v0,v1,hdB,hgB⟩;obtain ⟨v,rfl⟩:=Int.eq_ofNat_of_zero_le v0;have hkA:=hdA.cod.lt;(try have hcB:wB.cell? ⟨w0.heap.size,j,none⟩=some (.int .i64 t):=hgB.cell hcA (by simp;omega));(try have hcC:wB.cell? ⟨wA.heap.size,j,none⟩=some (.int .i64 t):=row_cell wA wB k _ _ j _ htl hkA hgB))
    | (go_simp;go_at_call 34;(refine (bytes_pa H0 hk _ ?_ v ?_).mono ?_);(first | exact hdB | exact hdB.alloc _);omega;rintro e wY ⟨p,c,ys,rfl,hbY,hdY,hgY⟩;have hkB:=hdB.cod.lt;(try have hcY1:wY.cell? ⟨w0.heap.size,j,none⟩=some (.int .i64 t):=hgY.cell hcB (by simp;omega));(try have hcY2:wY.cell? ⟨wA.heap.size,j,none⟩=some (.int .i64 t):=hgY.cell hcC (by simp;omega));(try have hcY3:wY.cell? ⟨wB.heap.size,j,none⟩=some (.int .i64 t):=row_cell wB wY k _ _ j _ htl hkB hgY);have hn1:¬ w.heap.size+1=wY.heap.size:=(by have:=hdY.ge;omega);have hn2:¬ w.heap.size=wY.heap.size:=(by have:=hdY.ge;omega);have hn3:¬ wY.heap.size=w.heap.size+1:=(by have:=hdY.ge;omega);have hn4:¬ wY.heap.size=w.heap.size:=(by have:=hdY.ge;omega);have hq1:w.heap.size+1<wY.heap.size:=(by have:=hdY.ge;omega);have hq2:w.heap.size<wY.heap.size:=(by have:=hdY.ge;omega);have s8:=hdY.S.c8;have s9:=hdY.S.c9;have s10:=hdY.S.c10;have s11:=hdY.S.c11;have sf:=hdY.S.fr;simp only [zeroP,nilV] at s8 s9 s10 s11;have HDY:=hidden hdY;have HBY:=hidden hbY;clear hdY hbY))
   all_goals
    clear s8 s9 s10 s11 sf
    go_wp2
    go_meet
   all_goals first
    | (have q:=hcY1;clear q;exact ⟨t,p,v,c,ys,⟨t0,t1,by omega⟩,(HDY.out.put hk hbase (wy:=((((wY.setCell ⟨w.heap.size+1,8,none⟩ (.int .i64 0)).setCell ⟨w.heap.size+1,9,none⟩ (.slice none 0 0)).setCell ⟨w.heap.size+1,10,none⟩ (.int .i64 t)).setCell ⟨w.heap.size+1,11,none⟩ (.slice p v c))) (grown_trans (grown_trans (grown_trans (grown_set _ _ _ _) (grown_set _ _ _ _)) (grown_set _ _ _ _)) (grown_set _ _ _ _)) (x':=⟨41,nilV,0,nilV,0,nilV,0,nilV,0,nilV,t,⟨p,v,c⟩,0,nilV,nilV,nilV⟩) (HDY.out.S.setN 0 t nilV ⟨p,v,c⟩)),fun w' hk'=>HBY.out.kp ((Kpt.low (grown_trans (grown_trans (grown_trans (grown_set _ _ _ _) (grown_set _ _ _ _)) (grown_set _ _ _ _)) (grown_set _ _ _ _)) (by omega)).trans hk')⟩)
    | (have q:=hcY2;clear q;exact ⟨t,p,v,c,ys,⟨t0,t1,by omega⟩,(HDY.out.put hk hbase (wy:=((((wY.setCell ⟨w.heap.size+1,8,none⟩ (.int .i64 0)).setCell ⟨w.heap.size+1,9,none⟩ (.slice none 0 0)).setCell ⟨w.heap.size+1,10,none⟩ (.int .i64 t)).setCell ⟨w.heap.size+1,11,none⟩ (.slice p v c))) (grown_trans (grown_trans (grown_trans (grown_set _ _ _ _) (grown_set _ _ _ _)) (grown_set _ _ _ _)) (grown_set _ _ _ _)) (x':=⟨41,nilV,0,nilV,0,nilV,0,nilV,0,nilV,t,⟨p,v,c⟩,0,nilV,nilV,nilV⟩) (HDY.out.S.setN 0 t nilV ⟨p,v,c⟩)),fun w' hk'=>HBY.out.kp ((Kpt.low (grown_trans (grown_trans (grown_trans (grown_set _ _ _ _) (grown_set _ _ _ _)) (grown_set _ _ _ _)) (grown_set _ _ _ _)) (by omega)).trans hk')⟩)
    | (have q:=hcY3;clear q;exact ⟨t,p,v,c,ys,⟨t0,t1,by omega⟩,(HDY.out.put hk hbase (wy:=((((wY.setCell ⟨w.heap.size+1,8,none⟩ (.int .i64 0)).setCell ⟨w.heap.size+1,9,none⟩ (.slice none 0 0)).setCell ⟨w.heap.size+1,10,none⟩ (.int .i64 t)).setCell ⟨w.heap.size+1,11,none⟩ (.slice p v c))) (grown_trans (grown_trans (grown_trans (grown_set _ _ _ _) (grown_set _ _ _ _)) (grown_set _ _ _ _)) (grown_set _ _ _ _)) (x':=⟨41,nilV,0,nilV,0,nilV,0,nilV,0,nilV,t,⟨p,v,c⟩,0,nilV,nilV,nilV⟩) (HDY.out.S.setN 0 t nilV ⟨p,v,c⟩)),fun w' hk'=>HBY.out.kp ((Kpt.low (grown_trans (grown_trans (grown_trans (grown_set _ _ _ _) (grown_set _ _ _ _)) (grown_set _ _ _ _)) (grown_set _ _ _ _)) (by omega)).trans hk')⟩)
    | (exact ⟨t,p,v,c,ys,⟨t0,t1,by omega⟩,(HDY.out.put hk hbase (wy:=((((wY.setCell ⟨w.heap.size+1,8,none⟩ (.int .i64 0)).setCell ⟨w.heap.size+1,9,none⟩ (.slice none 0 0)).setCell ⟨w.heap.size+1,10,none⟩ (.int .i64 t)).setCell ⟨w.heap.size+1,11,none⟩ (.slice p v c))) (grown_trans (grown_trans (grown_trans (grown_set _ _ _ _) (grown_set _ _ _ _)) (grown_set _ _ _ _)) (grown_set _ _ _ _)) (x':=⟨41,nilV,0,nilV,0,nilV,0,nilV,0,nilV,t,⟨p,v,c⟩,0,nilV,nilV,nilV⟩) (HDY.out.S.setN 0 t nilV ⟨p,v,c⟩)).alloc _,fun w' hk'=>HBY.out.kp (((Kpt.low (grown_trans (grown_trans (grown_trans (grown_set _ _ _ _) (grown_set _ _ _ _)) (grown_set _ _ _ _)) (grown_set _ _ _ _)) (by omega)).trans (Kpt.alloc _ _ _)).trans hk')⟩)
  case rest =>
   obtain ⟨t,p,n,c,ys,hnb,hd,hy⟩:=hcut
   have H2:=hidden hd
   have HY:=hidden hy
   have HNB:=hidden hnb
   rename World=>w2
   clear hd hy hnb
   go_upto_if 92 with (first | (go_at_call 10;(with_reducible refine (next_ps H2.out hk _ ?_).mono ?_);omega;rintro e w3 ⟨r,rfl,r0,r1,hd,hg⟩;have H3:=hidden hd;have HY3:=hidden (fun w' (hk':Kpt w3 w' (w.heap.size+2))=>HY.out w' ((Kpt.low hg (by omega)).trans hk'));clear hd hg H2 HY) | fail)
   by_cases hr:r=2
   ·subst hr
    go_wp2_with (first | (go_at_call 34;(refine (bytes_ps H3.out hk 4 ?_).mono ?_);omega;rintro e w4 ⟨q,d,us,rfl,hb,hd,hg⟩;have H4:=hidden hd;have HB4:=hidden hb;have HY4:=hidden (fun w' (hk':Kpt w4 w' (w.heap.size+2))=>HY3.out w' ((Kpt.low hg (by omega)).trans hk'));have s8:=hd.S.c8;have s9:=hd.S.c9;have sf:=hd.S.fr;simp only [nilV] at s8 s9;clear hd hb hg H3 HY3) | fail)
    clear s8 s9 sf
    go_meet
    case rel=>exact ⟨3,t,p,q,n,c,4,d,ys,us,⟨HNB.out.1,HNB.out.2.1,HNB.out.2.2,by omega,by omega⟩,H4.out.put hk hbase (wy:=((w4.setCell ⟨w.heap.size+1,8,none⟩ (.int .i64 3)).setCell ⟨w.heap.size+1,9,none⟩ (.slice q 4 d))) (grown_trans (grown_set _ _ _ _) (grown_set _ _ _ _)) (x':=⟨41,nilV,0,nilV,0,nilV,0,nilV,3,⟨q,4,d⟩,t,⟨p,n,c⟩,0,nilV,nilV,nilV⟩) (H4.out.S.setP 3 ⟨q,4,d⟩),fun w' hk'=>HY4.out w' ((Kpt.low (grown_trans (grown_set _ _ _ _) (grown_set _ _ _ _)) (by omega)).trans hk'),fun w' hk'=>HB4.out.kp ((Kpt.low (grown_trans (grown_set _ _ _ _) (grown_set _ _ _ _)) (by omega)).trans hk')⟩
   ·have hr':(r == 2)=false:=by simpa using hr
    clear hr
    go_wp2
    go_meet
    case rel=>exact ⟨0,t,p,none,n,c,0,0,ys,[],⟨HNB.out.1,HNB.out.2.1,HNB.out.2.2,by omega,by omega⟩,H3.out,HY3.out,fun w' _=>byt_nil w'⟩
 case rest =>
  obtain ⟨a,t,p,q,n,c,m,d,ys,us,hnb,hd,hy,hu⟩:=hcut
  have H2:=hidden hd
  have HY:=hidden hy
  have HU:=hidden hu
  have HNB:=hidden hnb
  rename World=>w2
  clear hd hy hu hnb
  obtain ⟨y0,y1,y2,y3,y4,y5,y6,y7,y8,y9,y10,y11,y12,y13,y14,y15,z0_,z1_,z2_,z3_,z4_,z5_,z6_,z7_,z8_,z9_,z10_,z11_,z12_,z13_,z14_,z15_,zf⟩:=H2.out.R.any
  obtain ⟨s0,s1,s2,s3,s4,s5,s6,s7,s8,s9,s10,s11,s12,s13,s14,s15,sf⟩:=H2.out.S
  simp only [nilV] at s0 s1 s2 s3 s4 s5 s6 s7 s8 s9 s10 s11 s12 s13 s14 s15
  go_wp2
  have hz:=H2.out.ret hk hbase (wy:=w2) (grown_refl _ _) ⟨41,nilV,0,nilV,0,nilV,0,nilV,a,⟨q,m,d⟩,t,⟨p,n,c⟩,0,nilV,nilV,nilV⟩
  simp only [setPv,nilV] at hz
  exact ret_pv1 (g:=w.heap.size) rfl rfl rfl hz.1 (made_plain (C:={ C0 with ns:=us,nd:=ys }) rfl rfl rfl (fun w' hk'=>⟨rdg_nil _ _ _,byt_nil _,byt_nil _,byt_nil _,HU.out w' hk',HY.out w' hk',rdg_nil _ _ _,rdg_nil _ _ _,byt_nil _⟩) hz.2.1 hz.2.2.1 hz.2.2.2 ((vld41 rfl).2 HNB.out.2.2.2.2) (Nat.zero_le 2) ⟨HNB.out.1,HNB.out.2.1,HNB.out.2.2.2.1,HNB.out.2.2.1⟩)
end Go.Proofs.YtgpigjoonhghhaaGreat
