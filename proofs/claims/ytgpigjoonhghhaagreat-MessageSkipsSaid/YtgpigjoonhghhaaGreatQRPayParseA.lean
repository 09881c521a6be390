/-
 The document's own Parse of a payload's body: the types 33, 44, 45, 41, 42.
-/
import Derived.Test.YtgpigjoonhghhaaGreatQZ29
namespace Go.Proofs.YtgpigjoonhghhaaGreat
open Go.RowKit
set_option linter.unusedVariables false
set_option maxHeartbeats 6400000 in
set_option maxRecDepth 100000 in
theorem rpparse_A (t:Int) (ht:t=33∨t=44∨t=45∨t=41∨t=42) (p:Option Addr) (n c:Nat) (xs:List Int) (cr:Bool) (w:World) (h:Byt w p n c xs) (hn:n≤1048576) :
  Calls Tryz.prog 18 #[.agg #[.int .i64 t,.bool cr,.slice p n c]] w (ParsedV w t (parseE t xs) (gdK t xs)):=by
 have HT:=hidden ht
 clear ht
 obtain ⟨i0,hi0,hz0,hz1,hz2⟩:=info_parts Tryz.infoByte
 have H:=hidden h
 have H0:=hidden (RPq.new w t cr p n c)
 obtain ⟨E,hE⟩ : ∃ E,parseE t xs=E:=⟨_,rfl⟩
 rw [hE]
 have hlen:=h.len
 have hcap:=h.cap
 have hbig:=h.big
 clear h
 go_enter Tryz.func18,Tryz.ntmps18
 go_upto_block 0 with fail
 generalize hw0:((w.alloc (.cells _ 51)).alloc (.cells _ 49)).alloc (.cells _ 49)=w0 at *
 clear hw0
 go_cut [5] from 6 to 136 (fun e wx=>e=.int .i64 E∧RDone w wx t p n c xs E)
 case first =>
  by_cases h33:t=33
  ·subst h33
   have hE':parseP xs=((parseP xs).1,E):=by rw [←hE];rfl
   have HP:=hidden (rparse4_any p n c xs w0 (H.out.below H0.out.bel) hn _ hE')
   obtain ⟨r0,r2,-,-,-⟩:=H0.out
   clear hE hE'
   go_wp2_with (first
    | (go_at_call 40;(with_reducible refine (HP.out).mono ?_);rintro e w2 ⟨v2,ls,rfl,hls,hrow,hbc⟩;obtain ⟨q2,d2,rfl⟩:=hrow.form rfl;have HR2:=hidden hrow;have HLS:=hidden hls;have HQ2:=hidden (H0.out.below hbc);have hge2:w.heap.size+1+1+1≤w0.heap.size:=H0.out.ge;obtain ⟨s0,s1,s2,s3,s4,s5,s6,s7,s8,s9,s10,s11,s12,s13,s14,s15,sf⟩:=HQ2.out.S;clear hrow hls hbc)
    | fail)
   clear s0 s1 s2 s3 s4 s5 s6 s7 s8 s9 s10 s11 s12 s13 s14 s15 sf
   go_meet
   case rel=>exact ⟨rfl,_,HQ2.out.put (put33_grown w2 _ ⟨q2,ls.length,d2⟩) (HQ2.out.S.put33 ⟨q2,ls.length,d2⟩),fun _=>⟨rfl,gdok_33 _ _ _ xs ls HLS.out ((HR2.out.low (put33_grown w2 _ ⟨q2,ls.length,d2⟩) (by omega)).mono hge2) rfl⟩⟩
  by_cases h44:t=44
  ·subst h44
   have hE':parseS xs=((parseS xs).1,E):=by rw [←hE];rfl
   have HP:=hidden (rparse5_any p n c xs w0 (H.out.below H0.out.bel) _ hE')
   obtain ⟨r0,r2,-,-,-⟩:=H0.out
   clear hE hE'
   go_wp2_with (first
    | (go_at_call 41;(with_reducible refine (HP.out).mono ?_);rintro e w2 ⟨v2,rfl,hrow,hbc⟩;obtain ⟨q2,d2,rfl⟩:=hrow.form rfl;have HR2:=hidden hrow;have HQ2:=hidden (H0.out.below hbc);have hge2:w.heap.size+1+1+1≤w0.heap.size:=H0.out.ge;obtain ⟨s0,s1,s2,s3,s4,s5,s6,s7,s8,s9,s10,s11,s12,s13,s14,s15,sf⟩:=HQ2.out.S;clear hrow hbc)
    | fail)
   clear s0 s1 s2 s3 s4 s5 s6 s7 s8 s9 s10 s11 s12 s13 s14 s15 sf
   go_meet
   case rel=>exact ⟨rfl,_,HQ2.out.put (put44_grown w2 _ ⟨q2,(parseS xs).1.length,d2⟩) (HQ2.out.S.put44 ⟨q2,(parseS xs).1.length,d2⟩),fun _=>⟨rfl,gdok_44 _ _ _ xs ((HR2.out.low (put44_grown w2 _ ⟨q2,(parseS xs).1.length,d2⟩) (by omega)).mono hge2) rfl⟩⟩
  by_cases h45:t=45
  ·subst h45
   have hE':parseS xs=((parseS xs).1,E):=by rw [←hE];rfl
   have HP:=hidden (rparse5_any p n c xs w0 (H.out.below H0.out.bel) _ hE')
   obtain ⟨r0,r2,-,-,-⟩:=H0.out
   clear hE hE'
   go_wp2_with (first
    | (go_at_call 41;(with_reducible refine (HP.out).mono ?_);rintro e w2 ⟨v2,rfl,hrow,hbc⟩;obtain ⟨q2,d2,rfl⟩:=hrow.form rfl;have HR2:=hidden hrow;have HQ2:=hidden (H0.out.below hbc);have hge2:w.heap.size+1+1+1≤w0.heap.size:=H0.out.ge;obtain ⟨s0,s1,s2,s3,s4,s5,s6,s7,s8,s9,s10,s11,s12,s13,s14,s15,sf⟩:=HQ2.out.S;clear hrow hbc)
    | fail)
   clear s0 s1 s2 s3 s4 s5 s6 s7 s8 s9 s10 s11 s12 s13 s14 s15 sf
   go_meet
   case rel=>exact ⟨rfl,_,HQ2.out.put (put44_grown w2 _ ⟨q2,(parseS xs).1.length,d2⟩) (HQ2.out.S.put44 ⟨q2,(parseS xs).1.length,d2⟩),fun _=>⟨rfl,gdok_45 _ _ _ xs ((HR2.out.low (put44_grown w2 _ ⟨q2,(parseS xs).1.length,d2⟩) (by omega)).mono hge2) rfl⟩⟩
  by_cases h41:t=41
  ·subst h41
   have hE':noteE xs n=E:=by rw [←hE,←hlen];rfl
   have HP:=hidden (rnotify_any p n c xs w0 (H.out.below H0.out.bel) (by omega))
   rw [hE'] at HP
   obtain ⟨r0,r2,-,-,-⟩:=H0.out
   clear hE hE'
   go_wp2_with (first
    | (go_at_call 45;(with_reducible refine (HP.out).mono ?_);rintro e w2 ⟨a,tt,s,d,rfl,hbc,hgd⟩;have HGD:=hidden hgd;have HQ2:=hidden (H0.out.below hbc);have hge2:w.heap.size+1+1+1≤w0.heap.size:=H0.out.ge;obtain ⟨s0,s1,s2,s3,s4,s5,s6,s7,s8,s9,s10,s11,s12,s13,s14,s15,sf⟩:=HQ2.out.S;clear hgd hbc)
    | fail)
   clear s0 s1 s2 s3 s4 s5 s6 s7 s8 s9 s10 s11 s12 s13 s14 s15 sf
   go_meet
   case rel=>exact ⟨rfl,_,HQ2.out.put (put41_grown w2 _ a s tt d) (HQ2.out.S.put41 a s tt d),fun h0=>(by
    obtain ⟨g1,g2,g3,g4⟩:=HGD.out h0
    exact ⟨rfl,gdok_41 _ _ _ xs g1 g2 ((Frs.low g3 (put41_grown w2 _ a s tt d) (by omega)).mono hge2) ((Frs.low g4 (put41_grown w2 _ a s tt d) (by omega)).mono hge2)⟩)⟩
  by_cases h42:t=42
  ·subst h42
   have hE':delE xs n=E:=by rw [←hE,←hlen];rfl
   have HP:=hidden (rremove_any p n c xs w0 (H.out.below H0.out.bel) (by omega))
   rw [hE'] at HP
   obtain ⟨r0,r2,-,-,-⟩:=H0.out
   clear hE hE'
   go_wp2_with (first
    | (go_at_call 46;(with_reducible refine (HP.out).mono ?_);rintro e w2 ⟨k,s,rfl,hbc,hgd⟩;have HGD:=hidden hgd;have HQ2:=hidden (H0.out.below hbc);have hge2:w.heap.size+1+1+1≤w0.heap.size:=H0.out.ge;obtain ⟨s0,s1,s2,s3,s4,s5,s6,s7,s8,s9,s10,s11,s12,s13,s14,s15,sf⟩:=HQ2.out.S;clear hgd hbc)
    | fail)
   clear s0 s1 s2 s3 s4 s5 s6 s7 s8 s9 s10 s11 s12 s13 s14 s15 sf
   go_meet
   case rel=>exact ⟨rfl,_,HQ2.out.put (put42_grown w2 _ k s) (HQ2.out.S.put42 k s),fun h0=>(by
    obtain ⟨g1,l,g2,g3,g4⟩:=HGD.out h0
    exact ⟨rfl,gdok_42 _ _ _ xs g1 l ((g2.low (put42_grown w2 _ k s) (by omega)).mono hge2) g3 g4⟩)⟩
  have ht:=HT.out
  exfalso
  omega
 case rest =>
  obtain ⟨rfl,x,hq,hk⟩:=hcut
  have HQ:=hidden hq
  have HK:=hidden hk
  have hge:=hq.ge
  clear hq hk H0
  rename World=>w2
  by_cases h0:E=0
  ·subst h0
   obtain ⟨e0,e1⟩:=HK.out rfl
   have HE0:=hidden e0
   obtain ⟨k0,k1,k2,k3,k4,k5,k6,k7,k8,k9,k10,k11,k12,k13,k14,k15,kfr⟩:=HQ.out.S
   obtain ⟨y0,y1,y2,y3,y4,y5,y6,y7,y8,y9,y10,y11,y12,y13,y14,y15,z0,z1,z2,z3,z4,z5,z6,z7,z8,z9,z10,z11,z12,z13,z14,z15,zf⟩:=HQ.out.R.any
   have hz:=stored_pv HQ.out.R HQ.out.bel (by omega) x
   have hgd:=(gdK t xs).mono ((gdK t xs).keep e1 (fun a v ha hc=>(setPv_grown w2 (w.heap.size+1) x).cell hc (by simp;omega))) (show w.heap.size≤w.heap.size+1+1+1 by omega)
   simp only [setPv] at hz hgd
   have HZZ:=hidden hz
   have HGG:=hidden hgd
   clear hz hgd e0 e1
   go_wp2
   exact ret_pv (g:=w.heap.size+1) rfl rfl rfl rfl HZZ.out.1 ⟨x,rfl,HZZ.out.2,Or.inl ⟨rfl,HE0.out,HGG.out⟩⟩
  ·have hE':(E != 0)=true:=by simpa using h0
   have HEN:=hidden h0
   clear h0 HK
   obtain ⟨y0,y1,y2,y3,y4,y5,y6,y7,y8,y9,y10,y11,y12,y13,y14,y15,z0,z1,z2,z3,z4,z5,z6,z7,z8,z9,z10,z11,z12,z13,z14,z15,zf⟩:=HQ.out.R.any
   have hz:=stored_pv HQ.out.R HQ.out.bel (by omega) zeroP
   simp only [setPv,zeroP,nilV] at hz
   have HZZ:=hidden hz
   clear hz
   go_wp2
   exact ret_pv (g:=w.heap.size+1) rfl rfl rfl rfl HZZ.out.1 ⟨zeroP,rfl,HZZ.out.2,Or.inr ⟨HEN.out,rfl⟩⟩
end Go.Proofs.YtgpigjoonhghhaaGreat
