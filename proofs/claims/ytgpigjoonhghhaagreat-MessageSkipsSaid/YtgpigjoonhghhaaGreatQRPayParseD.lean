/-
 The document's own Parse of a payload's body: all the others.
-/
import Derived.Test.YtgpigjoonhghhaaGreatQZ29
namespace Go.Proofs.YtgpigjoonhghhaaGreat
open Go.RowKit
set_option linter.unusedVariables false
set_option maxHeartbeats 6400000 in
set_option maxRecDepth 100000 in
theorem rpparse_D (t:Int) (ht:t≠33∧t≠34∧t≠35∧t≠36∧t≠39∧t≠41∧t≠42∧t≠44∧t≠45) (p:Option Addr) (n c:Nat) (xs:List Int) (cr:Bool) (w:World) (h:Byt w p n c xs) (hn:n≤1048576) :
  Calls Tryz.prog 18 #[.agg #[.int .i64 t,.bool cr,.slice p n c]] w (ParsedV w t (parseE t xs) (gdK t xs)):=by
 have HT:=hidden ht
 clear ht
 obtain ⟨i0,hi0,hz0,hz1,hz2⟩:=info_parts Tryz.infoByte
 have H:=hidden h
 have H0:=hidden (RPq.new w t cr p n c)
 obtain ⟨E,hE⟩ : ∃ E,parseE t xs=E:=⟨_,rfl⟩
 rw [hE]
 have hlen:=h.len
 have hcap:=h.cap
 have hbig:=h.big
 clear h
 go_enter Tryz.func18,Tryz.ntmps18
 go_upto_block 0 with fail
 generalize hw0:((w.alloc (.cells _ 51)).alloc (.cells _ 49)).alloc (.cells _ 49)=w0 at *
 clear hw0
 go_cut [5] from 6 to 136 (fun e wx=>e=.int .i64 E∧RDone w wx t p n c xs E)
 case first =>
  by_cases h40:t=40
  ·subst h40
   have hEX:E=nonceE n:=by rw [←hE,←hlen];rfl
   unfold nonceE at hEX
   have HEX:=hidden hEX
   clear hE hEX
   have HY0:=hidden (H.out.below H0.out.bel)
   have HYL:=Is.mk hlen
   have HYR:=hidden H.out.rng
   have hge:=H0.out.ge
   obtain ⟨r0,r2,-,-,-⟩:=H0.out
   go_wp2_with (first
    | (at_builtin;refine wpList_append_byt _ rfl _ _ 22 rfl w0.heap.size 5 i0 (.int .u8 0) Tryz.underlying22 hi0 hz0 hz1 hz2 rfl _ _ rfl (Own.nil _ _ _) _ _ _ _ _ rfl HY0.out rfl (by first | omega | (simp;omega)) (by first | exact Nat.le_refl _ | omega) ?_)
    | fail)
   intro u w2 ho hg
   obtain ⟨q2,d2,rfl,hf⟩:=Own.frs ho (n:=n) (by simp [HYL.eq]) (by simpa using HYR.out)
   have hb2:=grownNil_below hg
   try rw [List.nil_append] at hf
   have HF2:=hidden hf
   have HQ2:=hidden (H0.out.below hb2)
   obtain ⟨t0,t2,-,-,-⟩:=HQ2.out
   have hnr:¬ w.heap.size=w.heap.size+1+1:=by omega
   obtain ⟨s0,s1,s2,s3,s4,s5,s6,s7,s8,s9,s10,s11,s12,s13,s14,s15,sf⟩:=HQ2.out.S
   clear ho hg hb2 hf r0 r2
   by_cases h16:n<16
   ·have hE13:=HEX.out
    rw [if_pos (Or.inl h16)] at hE13
    have hh:(n:Int)<16:=by omega
    have HE13:=hidden hE13
    clear hE13
    go_wp2
    clear s0 s1 s2 s3 s4 s5 s6 s7 s8 s9 s10 s11 s12 s13 s14 s15 sf
    go_meet
    case rel=>exact ⟨by rw [HE13.out],_,HQ2.out.put (put40_grown w2 _ ⟨q2,n,d2⟩) (HQ2.out.S.put40 ⟨q2,n,d2⟩),fun h0=>absurd (HE13.out.symm.trans h0) (by decide)⟩
   ·have hh:¬ (n:Int)<16:=by omega
    by_cases h256:256<n
    ·have hE13:=HEX.out
     rw [if_pos (Or.inr h256)] at hE13
     have hh2:(256:Int)<(n:Int):=by omega
     have HE13:=hidden hE13
     clear hE13
     go_wp2
     clear s0 s1 s2 s3 s4 s5 s6 s7 s8 s9 s10 s11 s12 s13 s14 s15 sf
     go_meet
     case rel=>exact ⟨by rw [HE13.out],_,HQ2.out.put (put40_grown w2 _ ⟨q2,n,d2⟩) (HQ2.out.S.put40 ⟨q2,n,d2⟩),fun h0=>absurd (HE13.out.symm.trans h0) (by decide)⟩
    ·have hE0:=HEX.out
     rw [if_neg (by omega)] at hE0
     have hh2:¬ (256:Int)<(n:Int):=by omega
     have HE0:=hidden hE0
     clear hE0
     go_wp2
     clear s0 s1 s2 s3 s4 s5 s6 s7 s8 s9 s10 s11 s12 s13 s14 s15 sf
     go_meet
     case rel=>exact ⟨by rw [HE0.out],_,HQ2.out.put (put40_grown w2 _ ⟨q2,n,d2⟩) (HQ2.out.S.put40 ⟨q2,n,d2⟩),fun _=>⟨rfl,gdok_40 _ _ _ xs ((HF2.out.low (put40_grown w2 _ ⟨q2,n,d2⟩) (by omega)).mono hge)⟩⟩
  obtain ⟨h33,h34,h35,h36,h39,h41,h42,h44,h45⟩:=HT.out
  have hO:Other t:=⟨h33,h34,h35,h36,h39,h40,h41,h42,h44,h45⟩
  have hE0:E=0:=by
   rw [←hE]
   unfold parseE
   rw [if_neg h33,if_neg h34,if_neg h35,if_neg h36,if_neg h39,if_neg h40,if_neg h41,if_neg h42,if_neg h44,if_neg h45]
  have HO:=hidden hO
  have HE0:=hidden hE0
  have e33:(t == 33)=false:=by simpa using h33
  have e34:(t == 34)=false:=by simpa using h34
  have e35:(t == 35)=false:=by simpa using h35
  have e36:(t == 36)=false:=by simpa using h36
  have e39:(t == 39)=false:=by simpa using h39
  have e40:(t == 40)=false:=by simpa using h40
  have e41:(t == 41)=false:=by simpa using h41
  have e42:(t == 42)=false:=by simpa using h42
  have e44:(t == 44)=false:=by simpa using h44
  have e45:(t == 45)=false:=by simpa using h45
  clear hE hO hE0 h33 h34 h35 h36 h39 h40 h41 h42 h44 h45
  have HY0:=hidden (H.out.below H0.out.bel)
  have HYL:=Is.mk hlen
  have HYR:=hidden H.out.rng
  have hge:=H0.out.ge
  obtain ⟨r0,r2,-,-,-⟩:=H0.out
  go_wp2_with (first
   | (at_builtin;refine wpList_append_byt _ rfl _ _ 22 rfl w0.heap.size 5 i0 (.int .u8 0) Tryz.underlying22 hi0 hz0 hz1 hz2 rfl _ _ rfl (Own.nil _ _ _) _ _ _ _ _ rfl HY0.out rfl (by first | omega | (simp;omega)) (by first | exact Nat.le_refl _ | omega) ?_)
   | fail)
  intro u w2 ho hg
  obtain ⟨q2,d2,rfl,hf⟩:=Own.frs ho (n:=n) (by simp [HYL.eq]) (by simpa using HYR.out)
  have hb2:=grownNil_below hg
  try rw [List.nil_append] at hf
  have HF2:=hidden hf
  have HQ2:=hidden (H0.out.below hb2)
  obtain ⟨t0,t2,-,-,-⟩:=HQ2.out
  have hnr:¬ w.heap.size=w.heap.size+1+1:=by omega
  obtain ⟨s0,s1,s2,s3,s4,s5,s6,s7,s8,s9,s10,s11,s12,s13,s14,s15,sf⟩:=HQ2.out.S
  clear ho hg hb2 hf r0 r2
  go_wp2
  clear s0 s1 s2 s3 s4 s5 s6 s7 s8 s9 s10 s11 s12 s13 s14 s15 sf
  go_meet
  case rel=>exact ⟨by rw [HE0.out],_,HQ2.out.put (put40_grown w2 _ ⟨q2,n,d2⟩) (HQ2.out.S.put40 ⟨q2,n,d2⟩),fun _=>⟨rfl,gdok_X t HO.out _ _ _ xs ((HF2.out.low (put40_grown w2 _ ⟨q2,n,d2⟩) (by omega)).mono hge)⟩⟩
 case rest =>
  obtain ⟨rfl,x,hq,hk⟩:=hcut
  have HQ:=hidden hq
  have HK:=hidden hk
  have hge:=hq.ge
  clear hq hk H0
  rename World=>w2
  by_cases h0:E=0
  ·subst h0
   obtain ⟨e0,e1⟩:=HK.out rfl
   have HE0:=hidden e0
   obtain ⟨k0,k1,k2,k3,k4,k5,k6,k7,k8,k9,k10,k11,k12,k13,k14,k15,kfr⟩:=HQ.out.S
   obtain ⟨y0,y1,y2,y3,y4,y5,y6,y7,y8,y9,y10,y11,y12,y13,y14,y15,z0,z1,z2,z3,z4,z5,z6,z7,z8,z9,z10,z11,z12,z13,z14,z15,zf⟩:=HQ.out.R.any
   have hz:=stored_pv HQ.out.R HQ.out.bel (by omega) x
   have hgd:=(gdK t xs).mono ((gdK t xs).keep e1 (fun a v ha hc=>(setPv_grown w2 (w.heap.size+1) x).cell hc (by simp;omega))) (show w.heap.size≤w.heap.size+1+1+1 by omega)
   simp only [setPv] at hz hgd
   have HZZ:=hidden hz
   have HGG:=hidden hgd
   clear hz hgd e0 e1
   go_wp2
   exact ret_pv (g:=w.heap.size+1) rfl rfl rfl rfl HZZ.out.1 ⟨x,rfl,HZZ.out.2,Or.inl ⟨rfl,HE0.out,HGG.out⟩⟩
  ·have hE':(E != 0)=true:=by simpa using h0
   have HEN:=hidden h0
   clear h0 HK
   obtain ⟨y0,y1,y2,y3,y4,y5,y6,y7,y8,y9,y10,y11,y12,y13,y14,y15,z0,z1,z2,z3,z4,z5,z6,z7,z8,z9,z10,z11,z12,z13,z14,z15,zf⟩:=HQ.out.R.any
   have hz:=stored_pv HQ.out.R HQ.out.bel (by omega) zeroP
   simp only [setPv,zeroP,nilV] at hz
   have HZZ:=hidden hz
   clear hz
   go_wp2
   exact ret_pv (g:=w.heap.size+1) rfl rfl rfl rfl HZZ.out.1 ⟨zeroP,rfl,HZZ.out.2,Or.inr ⟨HEN.out,rfl⟩⟩
end Go.Proofs.YtgpigjoonhghhaaGreat
