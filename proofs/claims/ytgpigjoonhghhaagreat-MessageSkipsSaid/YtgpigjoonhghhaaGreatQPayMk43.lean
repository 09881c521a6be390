/-
 Codes.Payload, a type at a time.
-/
import Derived.Test.YtgpigjoonhghhaaGreatQZ7
namespace Go.Proofs.YtgpigjoonhghhaaGreat
open Go.RowKit
set_option linter.unusedVariables false
set_option maxHeartbeats 3200000 in
set_option maxRecDepth 100000 in
theorem mkpay43 (W w:World) (k:Nat) (h:Cod W w k):Calls Tryz.prog 15 #[.pointer (some ⟨k,0,none⟩),.int .i64 43] w (MadePv W w k 43):=by
 have hk:=h.lt
 have hbase:=h.bel.size
 have H0:=hidden (PyS.new h 43)
 clear h
 go_enter Tryz.func15,Tryz.ntmps15
 go_wp2_with (first
  | (go_at_call 10;(with_reducible refine (next_ps H0.out hk _ ?_).mono ?_);omega;rintro e w1 ⟨r,rfl,r0,r1,hd,hg⟩;obtain ⟨r,rfl⟩:=Int.eq_ofNat_of_zero_le r0;have H1:=hidden hd;clear hd hg H0)
  | (go_at_call 34;(refine (bytes_ps H1.out hk r ?_).mono ?_);omega;rintro e w2 ⟨pv,cv,ys,rfl,hb,hd,hg⟩;have H2:=hidden hd;have HBO:=hidden hb;obtain ⟨y0,y1,y2,y3,y4,y5,y6,y7,y8,y9,y10,y11,y12,y13,y14,y15,z0_,z1_,z2_,z3_,z4_,z5_,z6_,z7_,z8_,z9_,z10_,z11_,z12_,z13_,z14_,z15_,zf⟩:=H2.out.R.any;obtain ⟨s0,s1,s2,s3,s4,s5,s6,s7,s8,s9,s10,s11,s12,s13,s14,s15,sf⟩:=H2.out.S;simp only [zeroP,nilV] at s0 s1 s2 s3 s4 s5 s6 s7 s8 s9 s10 s11 s12 s13 s14 s15;clear hd hb hg H1)
  | fail)
 have hz:=H2.out.ret hk hbase (wy:=(w2.setCell ⟨w.heap.size+1,15,none⟩ (.slice pv r cv))) (grown_set _ _ _ _) ⟨43,nilV,0,nilV,0,nilV,0,nilV,0,nilV,0,nilV,0,nilV,nilV,⟨pv,r,cv⟩⟩
 simp only [setPv,nilV] at hz
 exact ret_pv1 (g:=w.heap.size) rfl rfl rfl hz.1 (made_plain (C:={ C0 with da:=ys }) rfl rfl rfl (fun w' hk'=>⟨rdg_nil _ _ _,byt_nil _,byt_nil _,byt_nil _,byt_nil _,byt_nil _,rdg_nil _ _ _,rdg_nil _ _ _,HBO.out.kp hk'⟩) hz.2.1 hz.2.2.1 hz.2.2.2 ((vld43 rfl).2 (by show r≤100;omega)))
set_option maxHeartbeats 3200000 in
set_option maxRecDepth 100000 in
theorem mkpay37 (W w:World) (k:Nat) (h:Cod W w k):Calls Tryz.prog 15 #[.pointer (some ⟨k,0,none⟩),.int .i64 37] w (MadePv W w k 37):=by
 have hk:=h.lt
 have hbase:=h.bel.size
 have H0:=hidden (PyS.new h 37)
 clear h
 go_enter Tryz.func15,Tryz.ntmps15
 go_wp2_with (first
  | (go_at_call 10;(with_reducible refine (next_ps H0.out hk _ ?_).mono ?_);omega;rintro e w1 ⟨r,rfl,r0,r1,hd,hg⟩;obtain ⟨r,rfl⟩:=Int.eq_ofNat_of_zero_le r0;have H1:=hidden hd;clear hd hg H0)
  | (go_at_call 34;(refine (bytes_ps H1.out hk r ?_).mono ?_);omega;rintro e w2 ⟨pv,cv,ys,rfl,hb,hd,hg⟩;have H2:=hidden hd;have HBO:=hidden hb;obtain ⟨y0,y1,y2,y3,y4,y5,y6,y7,y8,y9,y10,y11,y12,y13,y14,y15,z0_,z1_,z2_,z3_,z4_,z5_,z6_,z7_,z8_,z9_,z10_,z11_,z12_,z13_,z14_,z15_,zf⟩:=H2.out.R.any;obtain ⟨s0,s1,s2,s3,s4,s5,s6,s7,s8,s9,s10,s11,s12,s13,s14,s15,sf⟩:=H2.out.S;simp only [zeroP,nilV] at s0 s1 s2 s3 s4 s5 s6 s7 s8 s9 s10 s11 s12 s13 s14 s15;clear hd hb hg H1)
  | fail)
 have hz:=H2.out.ret hk hbase (wy:=(w2.setCell ⟨w.heap.size+1,15,none⟩ (.slice pv r cv))) (grown_set _ _ _ _) ⟨37,nilV,0,nilV,0,nilV,0,nilV,0,nilV,0,nilV,0,nilV,nilV,⟨pv,r,cv⟩⟩
 simp only [setPv,nilV] at hz
 exact ret_pv1 (g:=w.heap.size) rfl rfl rfl hz.1 (made_plain (C:={ C0 with da:=ys }) rfl rfl rfl (fun w' hk'=>⟨rdg_nil _ _ _,byt_nil _,byt_nil _,byt_nil _,byt_nil _,byt_nil _,rdg_nil _ _ _,rdg_nil _ _ _,HBO.out.kp hk'⟩) hz.2.1 hz.2.2.1 hz.2.2.2 ((vld37 rfl).2 (by show r≤100;omega)))
set_option maxHeartbeats 3200000 in
set_option maxRecDepth 100000 in
theorem mkpay44 (W w:World) (k:Nat) (h:Cod W w k):Calls Tryz.prog 15 #[.pointer (some ⟨k,0,none⟩),.int .i64 44] w (MadePv W w k 44):=by
 have hk:=h.lt
 have hbase:=h.bel.size
 have H0:=hidden (PyS.new h 44)
 clear h
 go_enter Tryz.func15,Tryz.ntmps15
 go_wp2_with (first
  | (go_at_call 33;(refine (sels_any W _ k H0.out.cod 2 (by omega) (by omega)).mono ?_);rintro e w2 ⟨v,l,f,rfl,hf,hl1,hl2,hd⟩;have H2:=hidden (H0.out.grown hk hd.cod hd.gr);have hrow:=hd.row;obtain ⟨pv,cv,rfl⟩:=hrow.form rfl;have HRW:=hidden (hrow.mono H0.out.ge);have HGD:=hidden (fun s hs=>(hd.all s hs).good);obtain ⟨y0,y1,y2,y3,y4,y5,y6,y7,y8,y9,y10,y11,y12,y13,y14,y15,z0_,z1_,z2_,z3_,z4_,z5_,z6_,z7_,z8_,z9_,z10_,z11_,z12_,z13_,z14_,z15_,zf⟩:=H2.out.R.any;obtain ⟨s0,s1,s2,s3,s4,s5,s6,s7,s8,s9,s10,s11,s12,s13,s14,s15,sf⟩:=H2.out.S;simp only [zeroP,nilV] at s0 s1 s2 s3 s4 s5 s6 s7 s8 s9 s10 s11 s12 s13 s14 s15;clear hd hrow H0)
  | fail)
 have hz:=H2.out.ret hk hbase (wy:=(w2.setCell ⟨w.heap.size+1,14,none⟩ (.slice pv l.length cv))) (grown_set _ _ _ _) ⟨44,nilV,0,nilV,0,nilV,0,nilV,0,nilV,0,nilV,0,nilV,⟨pv,l.length,cv⟩,nilV⟩
 simp only [setPv,nilV] at hz
 exact ret_pv1 (g:=w.heap.size) rfl rfl rfl hz.1 (made_plain (C:={ C0 with se:=l }) rfl rfl rfl (fun w' hk'=>⟨rdg_nil _ _ _,byt_nil _,byt_nil _,byt_nil _,byt_nil _,byt_nil _,rdg_nil _ _ _,RowG.kp HRW.out rfl hk' (fun _ h=>h),byt_nil _⟩) hz.2.1 hz.2.2.1 hz.2.2.2 ((vld44 rfl).2 ⟨HGD.out,hl1,hl2⟩))
set_option maxHeartbeats 3200000 in
set_option maxRecDepth 100000 in
theorem mkpay45 (W w:World) (k:Nat) (h:Cod W w k):Calls Tryz.prog 15 #[.pointer (some ⟨k,0,none⟩),.int .i64 45] w (MadePv W w k 45):=by
 have hk:=h.lt
 have hbase:=h.bel.size
 have H0:=hidden (PyS.new h 45)
 clear h
 go_enter Tryz.func15,Tryz.ntmps15
 go_wp2_with (first
  | (go_at_call 33;(refine (sels_any W _ k H0.out.cod 2 (by omega) (by omega)).mono ?_);rintro e w2 ⟨v,l,f,rfl,hf,hl1,hl2,hd⟩;have H2:=hidden (H0.out.grown hk hd.cod hd.gr);have hrow:=hd.row;obtain ⟨pv,cv,rfl⟩:=hrow.form rfl;have HRW:=hidden (hrow.mono H0.out.ge);have HGD:=hidden (fun s hs=>(hd.all s hs).good);obtain ⟨y0,y1,y2,y3,y4,y5,y6,y7,y8,y9,y10,y11,y12,y13,y14,y15,z0_,z1_,z2_,z3_,z4_,z5_,z6_,z7_,z8_,z9_,z10_,z11_,z12_,z13_,z14_,z15_,zf⟩:=H2.out.R.any;obtain ⟨s0,s1,s2,s3,s4,s5,s6,s7,s8,s9,s10,s11,s12,s13,s14,s15,sf⟩:=H2.out.S;simp only [zeroP,nilV] at s0 s1 s2 s3 s4 s5 s6 s7 s8 s9 s10 s11 s12 s13 s14 s15;clear hd hrow H0)
  | fail)
 have hz:=H2.out.ret hk hbase (wy:=(w2.setCell ⟨w.heap.size+1,14,none⟩ (.slice pv l.length cv))) (grown_set _ _ _ _) ⟨45,nilV,0,nilV,0,nilV,0,nilV,0,nilV,0,nilV,0,nilV,⟨pv,l.length,cv⟩,nilV⟩
 simp only [setPv,nilV] at hz
 exact ret_pv1 (g:=w.heap.size) rfl rfl rfl hz.1 (made_plain (C:={ C0 with se:=l }) rfl rfl rfl (fun w' hk'=>⟨rdg_nil _ _ _,byt_nil _,byt_nil _,byt_nil _,byt_nil _,byt_nil _,rdg_nil _ _ _,RowG.kp HRW.out rfl hk' (fun _ h=>h),byt_nil _⟩) hz.2.1 hz.2.2.1 hz.2.2.2 ((vld45 rfl).2 ⟨HGD.out,hl1,hl2⟩))
end Go.Proofs.YtgpigjoonhghhaaGreat
