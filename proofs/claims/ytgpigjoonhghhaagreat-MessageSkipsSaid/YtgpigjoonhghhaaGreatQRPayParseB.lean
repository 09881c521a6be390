/-
 The document's own Parse of a payload's body: the types 34, 35.
-/
import Derived.Test.YtgpigjoonhghhaaGreatQZ29
namespace Go.Proofs.YtgpigjoonhghhaaGreat
open Go.RowKit
set_option linter.unusedVariables false
set_option maxHeartbeats 6400000 in
set_option maxRecDepth 100000 in
theorem rpparse_B (t:Int) (ht:t=34∨t=35) (p:Option Addr) (n c:Nat) (xs:List Int) (cr:Bool) (w:World) (h:Byt w p n c xs) (hn:n≤1048576) :
  Calls Tryz.prog 18 #[.agg #[.int .i64 t,.bool cr,.slice p n c]] w (ParsedV w t (parseE t xs) (gdK t xs)):=by
 have HT:=hidden ht
 clear ht
 obtain ⟨i0,hi0,hz0,hz1,hz2⟩:=info_parts Tryz.infoByte
 have H:=hidden h
 have H0:=hidden (RPq.new w t cr p n c)
 obtain ⟨E,hE⟩ : ∃ E,parseE t xs=E:=⟨_,rfl⟩
 rw [hE]
 have hlen:=h.len
 have hcap:=h.cap
 have hbig:=h.big
 clear h
 go_enter Tryz.func18,Tryz.ntmps18
 go_upto_block 0 with fail
 generalize hw0:((w.alloc (.cells _ 51)).alloc (.cells _ 49)).alloc (.cells _ 49)=w0 at *
 clear hw0
 go_cut [5] from 6 to 136 (fun e wx=>e=.int .i64 E∧RDone w wx t p n c xs E)
 case first =>
  by_cases h34:t=34
  ·subst h34
   by_cases h4:n<4
   ·have hE1:E=1:=by rw [←hE];show exchangeE xs xs.length=1;unfold exchangeE;rw [if_pos (by omega)]
    clear hE
    subst hE1
    have hl4:(n:Int)<4:=by omega
    obtain ⟨r0,r2,-,-,-⟩:=H0.out
    have hge:=H0.out.ge
    obtain ⟨y0,y1,y2,y3,y4,y5,y6,y7,y8,y9,y10,y11,y12,y13,y14,y15,z0,z1,z2,z3,z4,z5,z6,z7,z8,z9,z10,z11,z12,z13,z14,z15,zf⟩:=H0.out.R.any
    have hz:=stored_pv H0.out.R H0.out.bel (by omega) zeroP
    simp only [setPv,zeroP,nilV] at hz
    have HZZ:=hidden hz
    clear hz
    go_wp2
    exact ret_pv (g:=w.heap.size+1) rfl rfl rfl rfl HZZ.out.1 ⟨zeroP,rfl,HZZ.out.2,Or.inr ⟨by decide,rfl⟩⟩
   ·obtain ⟨b,o,rfl,hc⟩:=H.out.at_ (by omega)
    have hbl:=H.out.lt (by omega)
    have hge:=H0.out.ge
    have hl4:¬ (n:Int)<4:=by omega
    have hn0:(0:Int)<(n:Int):=by omega
    have hn0N:0<n:=by omega
    have hc4:(4:Int)≤(c:Int):=by omega
    have hn4:(4:Int)≤(n:Int):=by omega
    have HY0:=hidden (fun W (hW:Below w.heap.size w W)=>H.out.below hW)
    have HX0:=hidden (fun W (hW:Below w.heap.size w W)=>(show W.cell? ⟨b,o,none⟩=some (.int .u8 (nthB xs 0)) from by have:=cell_below hW _ _ (hc 0 (by omega));rwa [Nat.add_zero] at this))
    have b0:=nthB_rng H.out.rng 0
    have b1:=nthB_rng H.out.rng 1
    obtain ⟨bp,hbp⟩ : ∃ z,(if c=4 then (some ⟨b,o,none⟩:Option Addr) else some ⟨b,o+4,none⟩)=z:=⟨_,rfl⟩
    have HQ:=hidden (fun W (hW:Below w.heap.size w W)=>(HY0.out W hW).part 4 n (by omega) (Nat.le_refl _))
    rw [Option.map_some,WideShapes.add_plain,hbp,List.take_of_length_le (by omega)] at HQ
    have hYl:(xs.drop 4).length=n - 4:=by rw [List.length_drop,hlen]
    have hYr:=rng_drop H.out.rng 4
    obtain ⟨Y,hY⟩ : ∃ y,xs.drop 4=y:=⟨_,rfl⟩
    rw [hY] at HQ hYl hYr
    have HYE:=Is.mk hY
    have HYL:=Is.mk hYl
    have HYR:=hidden hYr
    clear hc hY hYl hYr
    have HNO:=hidden (rnumber_yes (some ⟨b,o,none⟩) n c xs w0 (HY0.out w0 H0.out.bel) 0 2 (by omega) (by omega) (by omega))
    rw [val_two xs 0 (by omega),show (0:Nat)+1=1 from rfl,show ((2:Nat):Int)=2 from rfl,show ((0:Nat):Int)=0 from rfl] at HNO
    obtain ⟨G,hG⟩ : ∃ z,nthB xs 0*256+nthB xs 1=z:=⟨_,rfl⟩
    rw [hG] at HNO
    have hGr:0≤G∧G≤65535:=by omega
    have hwG:IntKind.i64.wrap G=G:=wraps_i64 _ (by omega) (by omega)
    have hEX:E=if n - 4=0 then 13 else 0:=by
     rw [←hE]
     show exchangeE xs xs.length=_
     unfold exchangeE exchE
     rw [hlen,if_neg h4,hG,if_neg (by omega)]
    have HEX:=hidden hEX
    have HG:=Is.mk hG
    have HQ0:=hidden (HQ.out w0 H0.out.bel)
    obtain ⟨r0,r2,-,-,-⟩:=H0.out
    clear hE hEX hG b0 b1
    go_wp2_with (first
     | (go_at_call 42;(with_reducible refine (HNO.out).mono ?_);rintro e w2 ⟨rfl,rfl⟩)
     | (at_builtin;refine wpList_append_byt _ rfl _ _ 22 rfl w0.heap.size 5 i0 (.int .u8 0) Tryz.underlying22 hi0 hz0 hz1 hz2 rfl _ _ rfl (Own.nil _ _ _) _ _ _ _ _ rfl HQ0.out rfl ?c2 ?c3 ?_)
     | fail)
    case c2=>simp;omega
    case c3=>omega
    intro u w2 ho hg
    obtain ⟨q2,d2,rfl,hf⟩:=Own.frs ho (n:=n - 4) (by simp [HYL.eq]) (by simpa using HYR.out)
    have hb2:=grownNil_below hg
    try rw [List.nil_append] at hf
    have HF2:=hidden hf
    have HQ2:=hidden (H0.out.below hb2)
    obtain ⟨t0,t2,-,-,-⟩:=HQ2.out
    obtain ⟨s0,s1,s2,s3,s4,s5,s6,s7,s8,s9,s10,s11,s12,s13,s14,s15,sf⟩:=HQ2.out.S
    clear ho hg hb2 hf r0 r2
    by_cases h44:n - 4=0
    ·have hE13:=HEX.out
     rw [if_pos h44] at hE13
     have hn44:((n:Int) == 4)=true:=by simp;omega
     have HE13:=hidden hE13
     clear hE13 h44
     go_wp2
     clear s0 s1 s2 s3 s4 s5 s6 s7 s8 s9 s10 s11 s12 s13 s14 s15 sf
     go_meet
     case rel=>exact ⟨by rw [HE13.out],_,HQ2.out.put (put34_grown w2 _ G ⟨q2,n - 4,d2⟩) (HQ2.out.S.put34 G ⟨q2,n - 4,d2⟩),fun h0=>absurd (HE13.out.symm.trans h0) (by decide)⟩
    ·have hE0:=HEX.out
     rw [if_neg h44] at hE0
     have hn44:((n:Int) == 4)=false:=by simp;omega
     have HE0:=hidden hE0
     clear hE0 h44
     go_wp2
     clear s0 s1 s2 s3 s4 s5 s6 s7 s8 s9 s10 s11 s12 s13 s14 s15 sf
     go_meet
     case rel=>exact ⟨by rw [HE0.out],_,HQ2.out.put (put34_grown w2 _ G ⟨q2,n - 4,d2⟩) (HQ2.out.S.put34 G ⟨q2,n - 4,d2⟩),fun _=>⟨rfl,gdok_34 _ _ _ xs HG.eq.symm (by rw [HYE.eq];exact (HF2.out.low (put34_grown w2 _ G ⟨q2,n - 4,d2⟩) (by omega)).mono hge)⟩⟩
  by_cases h35:t=35
  ·subst h35
   by_cases h4:n<4
   ·have hE1:E=1:=by rw [←hE];show identE xs xs.length=1;unfold identE;rw [if_pos (by omega)]
    clear hE
    subst hE1
    have hl4:(n:Int)<4:=by omega
    obtain ⟨r0,r2,-,-,-⟩:=H0.out
    have hge:=H0.out.ge
    obtain ⟨y0,y1,y2,y3,y4,y5,y6,y7,y8,y9,y10,y11,y12,y13,y14,y15,z0,z1,z2,z3,z4,z5,z6,z7,z8,z9,z10,z11,z12,z13,z14,z15,zf⟩:=H0.out.R.any
    have hz:=stored_pv H0.out.R H0.out.bel (by omega) zeroP
    simp only [setPv,zeroP,nilV] at hz
    have HZZ:=hidden hz
    clear hz
    go_wp2
    exact ret_pv (g:=w.heap.size+1) rfl rfl rfl rfl HZZ.out.1 ⟨zeroP,rfl,HZZ.out.2,Or.inr ⟨by decide,rfl⟩⟩
   ·obtain ⟨b,o,rfl,hc⟩:=H.out.at_ (by omega)
    have hbl:=H.out.lt (by omega)
    have hge:=H0.out.ge
    have hl4:¬ (n:Int)<4:=by omega
    have hn0:(0:Int)<(n:Int):=by omega
    have hn0N:0<n:=by omega
    have hc4:(4:Int)≤(c:Int):=by omega
    have hn4:(4:Int)≤(n:Int):=by omega
    have HY0:=hidden (fun W (hW:Below w.heap.size w W)=>H.out.below hW)
    have HX0:=hidden (fun W (hW:Below w.heap.size w W)=>(show W.cell? ⟨b,o,none⟩=some (.int .u8 (nthB xs 0)) from by have:=cell_below hW _ _ (hc 0 (by omega));rwa [Nat.add_zero] at this))
    have b0:=nthB_rng H.out.rng 0
    have b1:=nthB_rng H.out.rng 1
    obtain ⟨bp,hbp⟩ : ∃ z,(if c=4 then (some ⟨b,o,none⟩:Option Addr) else some ⟨b,o+4,none⟩)=z:=⟨_,rfl⟩
    have HQ:=hidden (fun W (hW:Below w.heap.size w W)=>(HY0.out W hW).part 4 n (by omega) (Nat.le_refl _))
    rw [Option.map_some,WideShapes.add_plain,hbp,List.take_of_length_le (by omega)] at HQ
    have hYl:(xs.drop 4).length=n - 4:=by rw [List.length_drop,hlen]
    have hYr:=rng_drop H.out.rng 4
    obtain ⟨Y,hY⟩ : ∃ y,xs.drop 4=y:=⟨_,rfl⟩
    rw [hY] at HQ hYl hYr
    have HYE:=Is.mk hY
    have HYL:=Is.mk hYl
    have HYR:=hidden hYr
    clear hc hY hYl hYr
    obtain ⟨G,hG⟩ : ∃ z,nthB xs 0=z:=⟨_,rfl⟩
    rw [hG] at HX0 b0
    have hwG:IntKind.i64.wrap G=G:=wraps_i64 _ (by omega) (by omega)
    have hEX:idE G (n - 4)=E:=by
     rw [←hE]
     show _=identE xs xs.length
     unfold identE
     rw [hlen,if_neg h4,hG]
    have HID:=hidden (fun q d W=>ridentity_any G q (n - 4) d W (by omega) E hEX)
    have HG:=Is.mk hG
    have HD0:=hidden (H0.out.drew)
    have HBD:=hidden HD0.out.bel
    have HQ0:=hidden (HQ.out w0.drew HBD.out)
    have hX0:=HX0.out w0.drew HBD.out
    have hnb:¬ b=w.heap.size+1+1:=by omega
    have hnr:¬ w.heap.size=w.heap.size+1+1:=by omega
    have HK:=hidden (fun W (hW:Below w0.drew.heap.size w0.drew W)=>(⟨HX0.out W (HBD.out.trans (hW.mono HBD.out.size)),(HD0.out.below hW).r2⟩:W.cell? ⟨b,o,none⟩=some (.int .u8 G)∧W.cell? ⟨w.heap.size,2,none⟩=some (.slice (some ⟨b,o,none⟩) n c)))
    have HB0:=hidden (Below.refl w0.drew.heap.size w0.drew)
    obtain ⟨r0,r2,-,-,-⟩:=H0.out
    obtain ⟨s0,s1,s2,s3,s4,s5,s6,s7,s8,s9,s10,s11,s12,s13,s14,s15,sf⟩:=HD0.out.S
    clear hE hEX hG b1
    go_upto_region 23 with fail
    go_region_held3 (fun w'=>w'.cell? ⟨b,o,none⟩=some (.int .u8 G)∧w'.cell? ⟨w.heap.size,2,none⟩=some (.slice (some ⟨b,o,none⟩) n c)) (first | exact HK.out _ HB0.out | exact HK.out _ HB2.out | (have hh:=put35_grown w2 (w.heap.size+1+1) G ⟨q2,n - 4,d2⟩;exact ⟨hh.cell m0 (by simp;omega),hh.cell m1 (by simp;omega)⟩) | go_keep) (first
     | (refine step_append_byt _ (by rfl) _ _ 22 (by rfl) w0.heap.size 5 i0 (.int .u8 0) Tryz.underlying22 hi0 hz0 hz1 hz2 rfl _ _ (by rfl) (Own.nil _ _ _) _ _ _ _ _ (by rfl) HQ0.out (by rfl) (by simp;omega) (by simp) ?_;intro u2 w2 ho2 hg2;obtain ⟨q2,d2,rfl,hf⟩:=Own.frs ho2 (n:=n - 4) (by simp [HYL.eq]) (by simpa using HYR.out);have hb2:=grownNil_below hg2;have HB2:=hidden hb2;obtain ⟨m0,m1⟩:=HK.out _ hb2;(try rw [List.nil_append] at hf);have HF2:=hidden hf;have HQ2:=hidden (HD0.out.below hb2);clear s0 s1 s2 s3 s4 s5 s6 s7 s8 s9 s10 s11 s12 s13 s14 s15 sf;obtain ⟨s0,s1,s2,s3,s4,s5,s6,s7,s8,s9,s10,s11,s12,s13,s14,s15,sf⟩:=HQ2.out.S;clear ho2 hg2 hb2 hf)
     | fail)
    all_goals
     have hp:=put35_grown w2 (w.heap.size+1+1) G ⟨q2,n - 4,d2⟩
     have hs:=HQ2.out.S.put35 G ⟨q2,n - 4,d2⟩
     have hq3:=HQ2.out.put hp hs
     have hf3:=(HF2.out.low hp (by omega)).mono hge
     have HQ3:=hidden hq3
     have HF3:=hidden hf3
     clear hp hs hq3 hf3
     go_wp2_with (first
      | (go_at_call 43;(with_reducible refine (HID.out _ _ _).mono ?_);rintro e w3 ⟨rfl,hb3⟩;have HQ4:=hidden (HQ3.out.below hb3);have HF4:=hidden (HF3.out.below hb3);clear hb3)
      | fail)
     clear s0 s1 s2 s3 s4 s5 s6 s7 s8 s9 s10 s11 s12 s13 s14 s15 sf
     go_meet
     case rel=>exact ⟨rfl,_,HQ4.out,fun _=>⟨rfl,gdok_35 _ _ _ xs HG.eq.symm (by rw [HYE.eq];exact HF4.out)⟩⟩
  have ht:=HT.out
  exfalso
  omega
 case rest =>
  obtain ⟨rfl,x,hq,hk⟩:=hcut
  have HQ:=hidden hq
  have HK:=hidden hk
  have hge:=hq.ge
  clear hq hk H0
  rename World=>w2
  by_cases h0:E=0
  ·subst h0
   obtain ⟨e0,e1⟩:=HK.out rfl
   have HE0:=hidden e0
   obtain ⟨k0,k1,k2,k3,k4,k5,k6,k7,k8,k9,k10,k11,k12,k13,k14,k15,kfr⟩:=HQ.out.S
   obtain ⟨y0,y1,y2,y3,y4,y5,y6,y7,y8,y9,y10,y11,y12,y13,y14,y15,z0,z1,z2,z3,z4,z5,z6,z7,z8,z9,z10,z11,z12,z13,z14,z15,zf⟩:=HQ.out.R.any
   have hz:=stored_pv HQ.out.R HQ.out.bel (by omega) x
   have hgd:=(gdK t xs).mono ((gdK t xs).keep e1 (fun a v ha hc=>(setPv_grown w2 (w.heap.size+1) x).cell hc (by simp;omega))) (show w.heap.size≤w.heap.size+1+1+1 by omega)
   simp only [setPv] at hz hgd
   have HZZ:=hidden hz
   have HGG:=hidden hgd
   clear hz hgd e0 e1
   go_wp2
   exact ret_pv (g:=w.heap.size+1) rfl rfl rfl rfl HZZ.out.1 ⟨x,rfl,HZZ.out.2,Or.inl ⟨rfl,HE0.out,HGG.out⟩⟩
  ·have hE':(E != 0)=true:=by simpa using h0
   have HEN:=hidden h0
   clear h0 HK
   obtain ⟨y0,y1,y2,y3,y4,y5,y6,y7,y8,y9,y10,y11,y12,y13,y14,y15,z0,z1,z2,z3,z4,z5,z6,z7,z8,z9,z10,z11,z12,z13,z14,z15,zf⟩:=HQ.out.R.any
   have hz:=stored_pv HQ.out.R HQ.out.bel (by omega) zeroP
   simp only [setPv,zeroP,nilV] at hz
   have HZZ:=hidden hz
   clear hz
   go_wp2
   exact ret_pv (g:=w.heap.size+1) rfl rfl rfl rfl HZZ.out.1 ⟨zeroP,rfl,HZZ.out.2,Or.inr ⟨HEN.out,rfl⟩⟩
end Go.Proofs.YtgpigjoonhghhaaGreat
