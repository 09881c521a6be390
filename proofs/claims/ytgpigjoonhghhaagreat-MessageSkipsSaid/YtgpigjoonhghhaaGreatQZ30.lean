/-
  What the document's own Parse of selectors returns, for any bytes. UNFINISHED.
  Codes.Payload, a type at a time.
-/
import Derived.Test.YtgpigjoonhghhaaGreatQZ14
import Derived.Test.YtgpigjoonhghhaaGreatQZ7
import Derived.Test.YtgpigjoonhghhaaGreatQZ10
namespace Go.Proofs.YtgpigjoonhghhaaGreat
open Go.RowKit
set_option linter.unusedVariables false
structure RS (w wx:World) (v:Value) (l:List Sl) (g:Nat) (s:Sl):Prop where
  bel:Below w.heap.size w wx
  row:RowG KSl NSl wx w.heap.size v l
  S:SlIn wx g s
  ge:w.heap.size≤g
  ne:v.ownBlock≠some g
section
variable {w wx wy:World} {v:Value} {l:List Sl} {g:Nat} {s:Sl}
theorem RS.new (hb:Below w.heap.size w wx) (hr:RowG KSl NSl wx w.heap.size v l) (s:Sl) (T:TypeId):RS w (wx.alloc (.cells #[.int .i64 s.p,.int .i64 s.a,.int .i64 s.b,.int .i64 s.lo.f,.int .u64 s.lo.h,.int .u64 s.lo.l,.int .i64 s.hi.f,.int .u64 s.hi.h,.int .u64 s.hi.l] T)) v l wx.heap.size s :=
  ⟨hb.alloc hb.size _,hr.alloc _,SlIn.new wx s T,hb.size,fun e=>by have:=(hr.lt _ e).2;omega⟩
theorem RS.below (h:RS w wx v l g s) (hb:Below wx.heap.size wx wy):RS w wy v l g s :=
  ⟨h.bel.trans (hb.mono h.bel.size),h.row.below hb,h.S.below hb,h.ge,h.ne⟩
theorem RS.set3 (h:RS w wx v l g s) (i j k:Nat) (x y z:Value) (s':Sl) (hs:SlIn (((wx.setCell ⟨g,i,none⟩ x).setCell ⟨g,j,none⟩ y).setCell ⟨g,k,none⟩ z) g s'):RS w (((wx.setCell ⟨g,i,none⟩ x).setCell ⟨g,j,none⟩ y).setCell ⟨g,k,none⟩ z) v l g s' :=
  ⟨((h.bel.setCell (p:=⟨g,i,none⟩) h.ge x).setCell (p:=⟨g,j,none⟩) h.ge y).setCell (p:=⟨g,k,none⟩) h.ge z,
   ((h.row.grown (grown_set wx g i x) (fun r hr=>by cases hr;exact h.ne) (fun r hr=>Or.inr (fun _ _ _ _ hm=>by cases hm))).grown (grown_set _ g j y) (fun r hr=>by cases hr;exact h.ne) (fun r hr=>Or.inr (fun _ _ _ _ hm=>by cases hm))).grown (grown_set _ g k z) (fun r hr=>by cases hr;exact h.ne) (fun r hr=>Or.inr (fun _ _ _ _ hm=>by cases hm)),hs,h.ge,h.ne⟩
theorem RS.setLo (h:RS w wx v l g s) (z:Ad):RS w (((wx.setCell ⟨g,3,none⟩ (.int .i64 z.f)).setCell ⟨g,4,none⟩ (.int .u64 z.h)).setCell ⟨g,5,none⟩ (.int .u64 z.l)) v l g { s with lo:=z }:=h.set3 3 4 5 _ _ _ _ (h.S.setLo z)
theorem RS.setHi (h:RS w wx v l g s) (z:Ad):RS w (((wx.setCell ⟨g,6,none⟩ (.int .i64 z.f)).setCell ⟨g,7,none⟩ (.int .u64 z.h)).setCell ⟨g,8,none⟩ (.int .u64 z.l)) v l g { s with hi:=z }:=h.set3 6 7 8 _ _ _ _ (h.S.setHi z)
end
set_option maxHeartbeats 1600000 in
set_option maxRecDepth 100000 in
theorem rparse5_any (p:Option Addr) (n c:Nat) (xs:List Int) (w:World) (h:Byt w p n c xs) (r:List Sl × Int) (hr:parseS xs=r) :
    Calls Tryz.prog 41 #[.slice p n c] w (ParsedS w r):=by
  have hn:=h.le
  unfold parseS at hr
  rw [h.len] at hr
  by_cases h4:n<4
  · rw [if_pos h4] at hr
    have HR:=hidden hr
    clear h hr
    go_enter Tryz.func41,Tryz.ntmps41
    go_wp2
    go_ret2
    exact parsed_none _ _ _ _ HR.out (Below.refl _ _)
  rw [if_neg h4] at hr
  obtain ⟨bb,oo,rfl,hcell⟩:=h.at_ (by omega)
  have c0:=hcell 0 (by omega)
  have x0:=rng_getD h.rng 0
  obtain ⟨N,hN⟩:=Int.eq_ofNat_of_zero_le x0.1
  rw [hN] at hr c0 x0
  rw [Nat.add_zero] at c0
  have hcap:=h.cap
  have h4':¬ (n:Int)<4:=by omega
  by_cases h0:(N:Int)=0
  · rw [if_pos h0] at hr
    have HR:=hidden hr
    have hN0:N=0:=by omega
    subst hN0
    clear h hr hcell hN h0
    go_enter Tryz.func41,Tryz.ntmps41
    go_wp2
    go_ret2
    exact parsed_none _ _ _ _ HR.out (Below.refl _ _)
  rw [if_neg h0] at hr
  have h0':((N:Int) == 0)=false:=by simpa using h0
  by_cases h16:(N:Int) > 16
  · rw [if_pos h16] at hr
    have HR:=hidden hr
    clear h hr hcell hN h0
    go_enter Tryz.func41,Tryz.ntmps41
    go_wp2
    go_ret2
    exact parsed_none _ _ _ _ HR.out (Below.refl _ _)
  rw [if_neg h16] at hr
  obtain ⟨o,ho⟩ : ∃ o,manyS N (xs.drop 4)=o:=⟨_,rfl⟩
  rw [Int.toNat_natCast,ho] at hr
  have HR:=hidden hr
  have HO:=hidden ho
  have HX:=hidden h
  have HN:=hidden hN
  have HLen:=hidden h.len
  clear h hr hcell hN ho h0
  go_enter Tryz.func41,Tryz.ntmps41
  go_upto_region 9 with fail
  go_wp2_with fail
  go_loopw [4,5,6] (fun v at_ i wr=>∃ (j a:Nat) (l:List Sl),i=.int .i64 j∧j≤N∧l.length=j∧at_=.int .i64 a∧a≤n∧(manyS (N - j) (xs.drop a)).map (l++·)=o∧RowG KSl NSl wr w.heap.size v l∧Below w.heap.size w wr) (fun _ _ i _=>N - (intOf i).toNat)
  case atStart=>exact ⟨0,4,[],rfl,by omega,rfl,rfl,by omega,by rw [←HO.out];simp,RowG.nil _ _ _ _,Below.refl _ _⟩
  case round =>
    obtain ⟨j,a,l,rfl,hj,hlj,rfl,haN,hm,hrow,hb⟩:=hrel
    have HB:=hidden hb
    have HRW:=hidden hrow
    have hby:=HX.out.below hb
    have hcap':=hby.cap
    have d0:=cell_below hb _ _ c0
    by_cases hlt:j<N
    · have hltN:(j:Int)<N:=by omega
      obtain ⟨o1,ho1⟩ : ∃ o1,oneS (xs.drop a)=o1:=⟨_,rfl⟩
      rw [show N - j=(N - (j+1))+1 by omega] at hm
      unfold manyS at hm
      rw [ho1] at hm
      have hcs:=oneS_cases xs a (by rw [HLen.out];exact haN) o1 ho1
      rw [HLen.out] at hcs
      have hwa:IntKind.i64.wrap ((n:Int) - a)=(n:Int) - a:=by rw [IntKind.wrap_i64];omega
      rcases hcs with ⟨k1,rfl⟩ | ⟨k1,k2,k3,rfl⟩ | ⟨k1,k2,k3,rfl⟩ | ⟨k1,k2,k3,k4,rfl⟩ | ⟨k2,k3,k4,rfl⟩ | ⟨k1,k2,k3,rfl⟩ | ⟨k1,k2,k3,k4,rfl⟩ | ⟨k2,k3,k4,rfl⟩
      · have k8:(n:Int) - a<8:=by omega
        simp only [Option.map_none] at hm
        subst hm
        clear hrow hby hb HRW ho1 HO
        go_wp2
        go_ret2
        exact parsed_none _ _ _ _ HR.out HB.out
      · have k8:¬ (n:Int) - a<8:=by omega
        obtain ⟨b',o',e,hc⟩:=hby.at_ (by omega)
        cases e
        have ca:=hc a (by omega)
        have e7:(xs.getD a 0 != 7)=true:=by simpa using k2
        have e8:(xs.getD a 0 != 8)=true:=by simpa using k3
        generalize xs.getD a 0=B at *
        simp only [Option.map_none] at hm
        subst hm
        clear hrow hby hb HRW ho1 HO hc
        go_wp2
        go_ret2
        exact parsed_none _ _ _ _ HR.out HB.out
      · have k8:¬ (n:Int) - a<8:=by omega
        obtain ⟨b',o',e,hc⟩:=hby.at_ (by omega)
        cases e
        have ca:=hc a (by omega)
        obtain ⟨Z,hZ⟩ : ∃ Z,nAt xs (a+2) 2=Z:=⟨_,rfl⟩
        have hZ1:=nAt_bd xs HX.out.rng (a+2) 2 (by omega)
        have hZ2:=nAt_two xs HX.out.rng (a+2) 2 (by omega)
        rw [hZ] at hZ1 hZ2 k3
        rw [k2] at ca
        have HNU:=hidden (fun wx (h:Byt wx (some ⟨bb,oo,none⟩) n c xs)=>rnum_b _ n c xs wx h (a+2) 2 ((a:Int)+2) 2 (by omega) rfl (by omega) (by omega) (by omega))
        rw [hZ] at HNU
        have HSZ:=hidden (rsize_any 4)
        rw [show ((sizeA 4:Nat):Int)=4 from rfl] at HSZ
        have HBY:=hidden hby
        have hw2:IntKind.i64.wrap ((a:Int)+2)=(a:Int)+2:=by rw [IntKind.wrap_i64];omega
        have hwZ:IntKind.i64.wrap Z=Z:=by rw [IntKind.wrap_i64];omega
        have eZ:(Z != 16)=true:=by simpa using k3
        skip
        simp only [Option.map_none] at hm
        subst hm
        clear hrow hby hb HRW ho1 HO hc k2 hZ k3
        go_wp2_with (first
          | (go_at_call 59;(with_reducible refine (HSZ.out _).mono ?_);rintro e w' ⟨rfl,rfl⟩)
          | (go_at_call 42;(with_reducible refine (HNU.out _ HBY.out).mono ?_);rintro e w' ⟨rfl,rfl⟩)
          | fail)
        go_ret2
        exact parsed_none _ _ _ _ HR.out HB.out
      · have k8:¬ (n:Int) - a<8:=by omega
        obtain ⟨b',o',e,hc⟩:=hby.at_ (by omega)
        cases e
        have ca:=hc a (by omega)
        obtain ⟨Z,hZ⟩ : ∃ Z,nAt xs (a+2) 2=Z:=⟨_,rfl⟩
        have hZ1:=nAt_bd xs HX.out.rng (a+2) 2 (by omega)
        have hZ2:=nAt_two xs HX.out.rng (a+2) 2 (by omega)
        rw [hZ] at hZ1 hZ2 k3
        rw [k2] at ca
        have HNU:=hidden (fun wx (h:Byt wx (some ⟨bb,oo,none⟩) n c xs)=>rnum_b _ n c xs wx h (a+2) 2 ((a:Int)+2) 2 (by omega) rfl (by omega) (by omega) (by omega))
        rw [hZ] at HNU
        have HSZ:=hidden (rsize_any 4)
        rw [show ((sizeA 4:Nat):Int)=4 from rfl] at HSZ
        have HBY:=hidden hby
        have hw2:IntKind.i64.wrap ((a:Int)+2)=(a:Int)+2:=by rw [IntKind.wrap_i64];omega
        have hwZ:IntKind.i64.wrap Z=Z:=by rw [IntKind.wrap_i64];omega
        have eZ:(Z != 16)=false:=by simp [k3]
        have kt:(n:Int) - a<16:=by omega
        simp only [Option.map_none] at hm
        subst hm
        clear hrow hby hb HRW ho1 HO hc k2 hZ k3
        go_wp2_with (first
          | (go_at_call 59;(with_reducible refine (HSZ.out _).mono ?_);rintro e w' ⟨rfl,rfl⟩)
          | (go_at_call 42;(with_reducible refine (HNU.out _ HBY.out).mono ?_);rintro e w' ⟨rfl,rfl⟩)
          | fail)
        go_ret2
        exact parsed_none _ _ _ _ HR.out HB.out
      · have k8:¬ (n:Int) - a<8:=by omega
        have kt:¬ (n:Int) - a<16:=by omega
        obtain ⟨b',o',e,hc⟩:=hby.at_ (by omega)
        cases e
        have ca:=hc a (by omega)
        have ca1:=hc (a+1) (by omega)
        rw [k2] at ca
        have HN2:=hidden (fun wx (h:Byt wx (some ⟨bb,oo,none⟩) n c xs)=>rnum_b _ n c xs wx h (a+2) 2 ((a:Int)+2) 2 (by omega) rfl (by omega) (by omega) (by omega))
        have HN4:=hidden (fun wx (h:Byt wx (some ⟨bb,oo,none⟩) n c xs)=>rnum_b _ n c xs wx h (a+4) 2 ((a:Int)+4) 2 (by omega) rfl (by omega) (by omega) (by omega))
        have HN6:=hidden (fun wx (h:Byt wx (some ⟨bb,oo,none⟩) n c xs)=>rnum_b _ n c xs wx h (a+6) 2 ((a:Int)+6) 2 (by omega) rfl (by omega) (by omega) (by omega))
        rw [k3] at HN2
        have HG1:=hidden (fun wx (h:Byt wx (some ⟨bb,oo,none⟩) n c xs)=>rget4_any _ n c xs wx h (a+8) ((a:Int)+8) (by omega) (by omega))
        have HG2:=hidden (fun wx (h:Byt wx (some ⟨bb,oo,none⟩) n c xs)=>rget4_any _ n c xs wx h (a+12) ((a:Int)+8+4) (by omega) (by omega))
        have HSZ:=hidden (rsize_any 4)
        rw [show ((sizeA 4:Nat):Int)=4 from rfl] at HSZ
        have HBY:=hidden hby
        have hw1:IntKind.i64.wrap ((a:Int)+1)=(a:Int)+1:=by rw [IntKind.wrap_i64];omega
        have hw2:IntKind.i64.wrap ((a:Int)+2)=(a:Int)+2:=by rw [IntKind.wrap_i64];omega
        have hw4:IntKind.i64.wrap ((a:Int)+4)=(a:Int)+4:=by rw [IntKind.wrap_i64];omega
        have hw6:IntKind.i64.wrap ((a:Int)+6)=(a:Int)+6:=by rw [IntKind.wrap_i64];omega
        have hw8:IntKind.i64.wrap ((a:Int)+8)=(a:Int)+8:=by rw [IntKind.wrap_i64];omega
        have hw9:IntKind.i64.wrap ((a:Int)+8+4)=(a:Int)+8+4:=by rw [IntKind.wrap_i64];omega
        have hwn:IntKind.i64.wrap ((a:Int)+16)=(a:Int)+16:=by rw [IntKind.wrap_i64];omega
        have hg1:=rng_getD HX.out.rng (a+1)
        have hp1:=nAt_bd xs HX.out.rng (a+4) 2 (by omega)
        have hp2:=nAt_two xs HX.out.rng (a+4) 2 (by omega)
        have hp3:=nAt_bd xs HX.out.rng (a+6) 2 (by omega)
        have hp4:=nAt_two xs HX.out.rng (a+6) 2 (by omega)
        have hwp:IntKind.i64.wrap (nAt xs (a+4) 2)=nAt xs (a+4) 2:=by rw [IntKind.wrap_i64];omega
        have hwq:IntKind.i64.wrap (nAt xs (a+6) 2)=nAt xs (a+6) 2:=by rw [IntKind.wrap_i64];omega
        have hfit:FitS (slAt xs a false):=one_fit (rng_drop HX.out.rng a) ho1
        have HF:=hidden hfit
        have HM:=hidden hm
        have HS0:=hidden (RS.new hb hrow ⟨xs.getD (a+1) 0,nAt xs (a+4) 2,nAt xs (a+6) 2,⟨0,0,0⟩,⟨0,0,0⟩⟩ 122)
        have HSL:=hidden (show slAt xs a false=⟨xs.getD (a+1) 0,nAt xs (a+4) 2,nAt xs (a+6) 2,⟨4,0,nAt xs (a+8) 4⟩,⟨4,0,nAt xs (a+12) 4⟩⟩ from rfl)
        obtain ⟨pv,cv,rfl⟩:=hrow.form rfl
        have HLJ:=hidden hlj
        have hl16:l.length≤16:=by omega
        clear hrow hby hb HRW ho1 HO hc k2 k3 hm hfit hlj
        generalize xs.getD (a+1) 0=P1 at *
        generalize nAt xs (a+4) 2=PA at *
        generalize nAt xs (a+6) 2=PB at *
        go_upto_region 24 with (first
          | (go_at_call 59;(with_reducible refine (HSZ.out _).mono ?_);rintro e w' ⟨rfl,rfl⟩)
          | (go_at_call 42;(first | (with_reducible refine (HN2.out _ HBY.out).mono ?_) | (with_reducible refine (HN4.out _ HBY.out).mono ?_) | (with_reducible refine (HN6.out _ HBY.out).mono ?_));rintro e w' ⟨rfl,rfl⟩)
          | fail)
        generalize nAt xs (a+8) 4=L1 at *
        generalize nAt xs (a+12) 4=L2 at *
        rw [HSL.out] at HF HM
        clear HSL
        go_upto_region 26 with (first
          | (go_at_call 63;(with_reducible refine (HG1.out _ (HX.out.below HS0.out.bel)).mono ?_);rintro e w4 ⟨rfl,hb⟩;have H4:=hidden (HS0.out.below hb);obtain ⟨s0,s1,s2,s3,s4,s5,s6,s7,s8,sf⟩:=H4.out.S;have H5:=hidden (H4.out.setLo ⟨4,0,L1⟩);clear hb HS0)
          | (go_at_call 59;(with_reducible refine (HSZ.out _).mono ?_);rintro e w' ⟨rfl,rfl⟩)
          | (go_at_call 63;(with_reducible refine (HG2.out _ (HX.out.below H5.out.bel)).mono ?_);rintro e w6 ⟨rfl,hb⟩;have H6:=hidden (H5.out.below hb);clear s0 s1 s2 s3 s4 s5 s6 s7 s8 sf;obtain ⟨s0,s1,s2,s3,s4,s5,s6,s7,s8,sf⟩:=H6.out.S;have H7:Hid (RS w (((w6.setCell ⟨wr.heap.size,6,none⟩ (.int .i64 4)).setCell ⟨wr.heap.size,7,none⟩ (.int .u64 0)).setCell ⟨wr.heap.size,8,none⟩ (.int .u64 L2)) (.slice pv l.length cv) l wr.heap.size ⟨P1,PA,PB,⟨4,0,L1⟩,⟨4,0,L2⟩⟩):=hidden (H6.out.setHi ⟨4,0,L2⟩);clear hb H4 H5 H6)
          | fail)
        clear s0 s1 s2 s3 s4 s5 s6 s7 s8 sf HG1 HG2 HN2 HN4 HN6
        generalize hw7:(((w6.setCell ⟨wr.heap.size,6,none⟩ (.int .i64 4)).setCell ⟨wr.heap.size,7,none⟩ (.int .u64 0)).setCell ⟨wr.heap.size,8,none⟩ (.int .u64 L2))=w7 at *
        generalize wr.heap.size=g at *
        have H9:=hidden (H7.out.below (wy:=w7.alloc (.cells #[.int .i64 P1,.int .i64 PA,.int .i64 PB,.int .i64 4,.int .u64 0,.int .u64 L1,.int .i64 4,.int .u64 0,.int .u64 L2] 122)) ((Below.refl _ w7).alloc (Nat.le_refl _) _))
        have HS9:Hid (SrcG KSl (w7.alloc (.cells #[.int .i64 P1,.int .i64 PA,.int .i64 PB,.int .i64 4,.int .u64 0,.int .u64 L1,.int .i64 4,.int .u64 0,.int .u64 L2] 122)) (some ⟨w7.heap.size,0,none⟩) 1 [⟨P1,PA,PB,⟨4,0,L1⟩,⟨4,0,L2⟩⟩]):=hidden (srcSl w7 ⟨P1,PA,PB,⟨4,0,L1⟩,⟨4,0,L2⟩⟩ 122)
        obtain ⟨s0,s1,s2,s3,s4,s5,s6,s7,s8,sf⟩:=H7.out.S
        clear hw7
        go_wp2_with (first
          | (at_builtin;go_loud (refine wpList_append_g knownSl (by simp [NSl]) _ rfl _ _ rfl w.heap.size _ l rfl H9.out.row _ 1 1 [⟨P1,PA,PB,⟨4,0,L1⟩,⟨4,0,L2⟩⟩] rfl HS9.out (fun x hx=>by rw [List.mem_singleton.1 hx];exact HF.out) (by unfold maxLen;omega) (by omega) H9.out.bel.size ?_))
          | fail)
        intro v8 w8 hr8 hg8
        have HB8:=hidden (H9.out.bel.grown hg8 H9.out.bel.size (fun j hj=>(H9.out.row.lt j hj).1))
        have HR8:=hidden hr8
        clear hr8 hg8 H7 H9 HS9 s0 s1 s2 s3 s4 s5 s6 s7 s8 sf
        go_wp2
        go_roundw
        case rel=>exact ⟨j+1,a+16,l++[⟨P1,PA,PB,⟨4,0,L1⟩,⟨4,0,L2⟩⟩],by go_num,by omega,by have:=HLJ.out;simp;omega,by go_num,by omega,by have hM:=HM.out;simp only [List.drop_drop] at hM;rw [Option.map_map] at hM;rw [←hM];congr 1;funext x;simp,HR8.out,HB8.out⟩
        case measure=>simp [intOf];omega
      · have k8:¬ (n:Int) - a<8:=by omega
        obtain ⟨b',o',e,hc⟩:=hby.at_ (by omega)
        cases e
        have ca:=hc a (by omega)
        obtain ⟨Z,hZ⟩ : ∃ Z,nAt xs (a+2) 2=Z:=⟨_,rfl⟩
        have hZ1:=nAt_bd xs HX.out.rng (a+2) 2 (by omega)
        have hZ2:=nAt_two xs HX.out.rng (a+2) 2 (by omega)
        rw [hZ] at hZ1 hZ2 k3
        rw [k2] at ca
        have HNU:=hidden (fun wx (h:Byt wx (some ⟨bb,oo,none⟩) n c xs)=>rnum_b _ n c xs wx h (a+2) 2 ((a:Int)+2) 2 (by omega) rfl (by omega) (by omega) (by omega))
        rw [hZ] at HNU
        have HSZ:=hidden (rsize_any 6)
        rw [show ((sizeA 6:Nat):Int)=16 from rfl] at HSZ
        have HBY:=hidden hby
        have hw2:IntKind.i64.wrap ((a:Int)+2)=(a:Int)+2:=by rw [IntKind.wrap_i64];omega
        have hwZ:IntKind.i64.wrap Z=Z:=by rw [IntKind.wrap_i64];omega
        have eZ:(Z != 40)=true:=by simpa using k3
        skip
        simp only [Option.map_none] at hm
        subst hm
        clear hrow hby hb HRW ho1 HO hc k2 hZ k3
        go_wp2_with (first
          | (go_at_call 59;(with_reducible refine (HSZ.out _).mono ?_);rintro e w' ⟨rfl,rfl⟩)
          | (go_at_call 42;(with_reducible refine (HNU.out _ HBY.out).mono ?_);rintro e w' ⟨rfl,rfl⟩)
          | fail)
        go_ret2
        exact parsed_none _ _ _ _ HR.out HB.out
      · have k8:¬ (n:Int) - a<8:=by omega
        obtain ⟨b',o',e,hc⟩:=hby.at_ (by omega)
        cases e
        have ca:=hc a (by omega)
        obtain ⟨Z,hZ⟩ : ∃ Z,nAt xs (a+2) 2=Z:=⟨_,rfl⟩
        have hZ1:=nAt_bd xs HX.out.rng (a+2) 2 (by omega)
        have hZ2:=nAt_two xs HX.out.rng (a+2) 2 (by omega)
        rw [hZ] at hZ1 hZ2 k3
        rw [k2] at ca
        have HNU:=hidden (fun wx (h:Byt wx (some ⟨bb,oo,none⟩) n c xs)=>rnum_b _ n c xs wx h (a+2) 2 ((a:Int)+2) 2 (by omega) rfl (by omega) (by omega) (by omega))
        rw [hZ] at HNU
        have HSZ:=hidden (rsize_any 6)
        rw [show ((sizeA 6:Nat):Int)=16 from rfl] at HSZ
        have HBY:=hidden hby
        have hw2:IntKind.i64.wrap ((a:Int)+2)=(a:Int)+2:=by rw [IntKind.wrap_i64];omega
        have hwZ:IntKind.i64.wrap Z=Z:=by rw [IntKind.wrap_i64];omega
        have eZ:(Z != 40)=false:=by simp [k3]
        have kt:(n:Int) - a<40:=by omega
        simp only [Option.map_none] at hm
        subst hm
        clear hrow hby hb HRW ho1 HO hc k2 hZ k3
        go_wp2_with (first
          | (go_at_call 59;(with_reducible refine (HSZ.out _).mono ?_);rintro e w' ⟨rfl,rfl⟩)
          | (go_at_call 42;(with_reducible refine (HNU.out _ HBY.out).mono ?_);rintro e w' ⟨rfl,rfl⟩)
          | fail)
        go_ret2
        exact parsed_none _ _ _ _ HR.out HB.out
      · have k8:¬ (n:Int) - a<8:=by omega
        have kt:¬ (n:Int) - a<40:=by omega
        obtain ⟨b',o',e,hc⟩:=hby.at_ (by omega)
        cases e
        have ca:=hc a (by omega)
        have ca1:=hc (a+1) (by omega)
        rw [k2] at ca
        have HN2:=hidden (fun wx (h:Byt wx (some ⟨bb,oo,none⟩) n c xs)=>rnum_b _ n c xs wx h (a+2) 2 ((a:Int)+2) 2 (by omega) rfl (by omega) (by omega) (by omega))
        have HN4:=hidden (fun wx (h:Byt wx (some ⟨bb,oo,none⟩) n c xs)=>rnum_b _ n c xs wx h (a+4) 2 ((a:Int)+4) 2 (by omega) rfl (by omega) (by omega) (by omega))
        have HN6:=hidden (fun wx (h:Byt wx (some ⟨bb,oo,none⟩) n c xs)=>rnum_b _ n c xs wx h (a+6) 2 ((a:Int)+6) 2 (by omega) rfl (by omega) (by omega) (by omega))
        rw [k3] at HN2
        have HG1:=hidden (fun wx (h:Byt wx (some ⟨bb,oo,none⟩) n c xs)=>rget6_any _ n c xs wx h (a+8) ((a:Int)+8) (by omega) (by omega))
        have HG2:=hidden (fun wx (h:Byt wx (some ⟨bb,oo,none⟩) n c xs)=>rget6_any _ n c xs wx h (a+24) ((a:Int)+8+16) (by omega) (by omega))
        have HSZ:=hidden (rsize_any 6)
        rw [show ((sizeA 6:Nat):Int)=16 from rfl] at HSZ
        have HBY:=hidden hby
        have hw1:IntKind.i64.wrap ((a:Int)+1)=(a:Int)+1:=by rw [IntKind.wrap_i64];omega
        have hw2:IntKind.i64.wrap ((a:Int)+2)=(a:Int)+2:=by rw [IntKind.wrap_i64];omega
        have hw4:IntKind.i64.wrap ((a:Int)+4)=(a:Int)+4:=by rw [IntKind.wrap_i64];omega
        have hw6:IntKind.i64.wrap ((a:Int)+6)=(a:Int)+6:=by rw [IntKind.wrap_i64];omega
        have hw8:IntKind.i64.wrap ((a:Int)+8)=(a:Int)+8:=by rw [IntKind.wrap_i64];omega
        have hw9:IntKind.i64.wrap ((a:Int)+8+16)=(a:Int)+8+16:=by rw [IntKind.wrap_i64];omega
        have hwn:IntKind.i64.wrap ((a:Int)+40)=(a:Int)+40:=by rw [IntKind.wrap_i64];omega
        have hg1:=rng_getD HX.out.rng (a+1)
        have hp1:=nAt_bd xs HX.out.rng (a+4) 2 (by omega)
        have hp2:=nAt_two xs HX.out.rng (a+4) 2 (by omega)
        have hp3:=nAt_bd xs HX.out.rng (a+6) 2 (by omega)
        have hp4:=nAt_two xs HX.out.rng (a+6) 2 (by omega)
        have hwp:IntKind.i64.wrap (nAt xs (a+4) 2)=nAt xs (a+4) 2:=by rw [IntKind.wrap_i64];omega
        have hwq:IntKind.i64.wrap (nAt xs (a+6) 2)=nAt xs (a+6) 2:=by rw [IntKind.wrap_i64];omega
        have hfit:FitS (slAt xs a true):=one_fit (rng_drop HX.out.rng a) ho1
        have HF:=hidden hfit
        have HM:=hidden hm
        have HS0:=hidden (RS.new hb hrow ⟨xs.getD (a+1) 0,nAt xs (a+4) 2,nAt xs (a+6) 2,⟨0,0,0⟩,⟨0,0,0⟩⟩ 122)
        have HSL:=hidden (show slAt xs a true=⟨xs.getD (a+1) 0,nAt xs (a+4) 2,nAt xs (a+6) 2,⟨6,nAt xs (a+8) 8,nAt xs (a+16) 8⟩,⟨6,nAt xs (a+24) 8,nAt xs (a+32) 8⟩⟩ from rfl)
        obtain ⟨pv,cv,rfl⟩:=hrow.form rfl
        have HLJ:=hidden hlj
        have hl16:l.length≤16:=by omega
        clear hrow hby hb HRW ho1 HO hc k2 k3 hm hfit hlj
        generalize xs.getD (a+1) 0=P1 at *
        generalize nAt xs (a+4) 2=PA at *
        generalize nAt xs (a+6) 2=PB at *
        go_upto_region 24 with (first
          | (go_at_call 59;(with_reducible refine (HSZ.out _).mono ?_);rintro e w' ⟨rfl,rfl⟩)
          | (go_at_call 42;(first | (with_reducible refine (HN2.out _ HBY.out).mono ?_) | (with_reducible refine (HN4.out _ HBY.out).mono ?_) | (with_reducible refine (HN6.out _ HBY.out).mono ?_));rintro e w' ⟨rfl,rfl⟩)
          | fail)
        generalize nAt xs (a+8) 8=L1 at *
        generalize nAt xs (a+8+8) 8=L2 at *
        generalize nAt xs (a+24) 8=L3 at *
        generalize nAt xs (a+24+8) 8=L4 at *
        rw [HSL.out] at HF HM
        clear HSL
        go_upto_region 26 with (first
          | (go_at_call 63;(with_reducible refine (HG1.out _ (HX.out.below HS0.out.bel)).mono ?_);rintro e w4 ⟨rfl,hb⟩;have H4:=hidden (HS0.out.below hb);obtain ⟨s0,s1,s2,s3,s4,s5,s6,s7,s8,sf⟩:=H4.out.S;have H5:=hidden (H4.out.setLo ⟨6,L1,L2⟩);clear hb HS0)
          | (go_at_call 59;(with_reducible refine (HSZ.out _).mono ?_);rintro e w' ⟨rfl,rfl⟩)
          | (go_at_call 63;(with_reducible refine (HG2.out _ (HX.out.below H5.out.bel)).mono ?_);rintro e w6 ⟨rfl,hb⟩;have H6:=hidden (H5.out.below hb);clear s0 s1 s2 s3 s4 s5 s6 s7 s8 sf;obtain ⟨s0,s1,s2,s3,s4,s5,s6,s7,s8,sf⟩:=H6.out.S;have H7:Hid (RS w (((w6.setCell ⟨wr.heap.size,6,none⟩ (.int .i64 6)).setCell ⟨wr.heap.size,7,none⟩ (.int .u64 L3)).setCell ⟨wr.heap.size,8,none⟩ (.int .u64 L4)) (.slice pv l.length cv) l wr.heap.size ⟨P1,PA,PB,⟨6,L1,L2⟩,⟨6,L3,L4⟩⟩):=hidden (H6.out.setHi ⟨6,L3,L4⟩);clear hb H4 H5 H6)
          | fail)
        clear s0 s1 s2 s3 s4 s5 s6 s7 s8 sf HG1 HG2 HN2 HN4 HN6
        generalize hw7:(((w6.setCell ⟨wr.heap.size,6,none⟩ (.int .i64 6)).setCell ⟨wr.heap.size,7,none⟩ (.int .u64 L3)).setCell ⟨wr.heap.size,8,none⟩ (.int .u64 L4))=w7 at *
        generalize wr.heap.size=g at *
        have H9:=hidden (H7.out.below (wy:=w7.alloc (.cells #[.int .i64 P1,.int .i64 PA,.int .i64 PB,.int .i64 6,.int .u64 L1,.int .u64 L2,.int .i64 6,.int .u64 L3,.int .u64 L4] 122)) ((Below.refl _ w7).alloc (Nat.le_refl _) _))
        have HS9:Hid (SrcG KSl (w7.alloc (.cells #[.int .i64 P1,.int .i64 PA,.int .i64 PB,.int .i64 6,.int .u64 L1,.int .u64 L2,.int .i64 6,.int .u64 L3,.int .u64 L4] 122)) (some ⟨w7.heap.size,0,none⟩) 1 [⟨P1,PA,PB,⟨6,L1,L2⟩,⟨6,L3,L4⟩⟩]):=hidden (srcSl w7 ⟨P1,PA,PB,⟨6,L1,L2⟩,⟨6,L3,L4⟩⟩ 122)
        obtain ⟨s0,s1,s2,s3,s4,s5,s6,s7,s8,sf⟩:=H7.out.S
        clear hw7
        go_wp2_with (first
          | (at_builtin;go_loud (refine wpList_append_g knownSl (by simp [NSl]) _ rfl _ _ rfl w.heap.size _ l rfl H9.out.row _ 1 1 [⟨P1,PA,PB,⟨6,L1,L2⟩,⟨6,L3,L4⟩⟩] rfl HS9.out (fun x hx=>by rw [List.mem_singleton.1 hx];exact HF.out) (by unfold maxLen;omega) (by omega) H9.out.bel.size ?_))
          | fail)
        intro v8 w8 hr8 hg8
        have HB8:=hidden (H9.out.bel.grown hg8 H9.out.bel.size (fun j hj=>(H9.out.row.lt j hj).1))
        have HR8:=hidden hr8
        clear hr8 hg8 H7 H9 HS9 s0 s1 s2 s3 s4 s5 s6 s7 s8 sf
        go_wp2
        go_roundw
        case rel=>exact ⟨j+1,a+40,l++[⟨P1,PA,PB,⟨6,L1,L2⟩,⟨6,L3,L4⟩⟩],by go_num,by omega,by have:=HLJ.out;simp;omega,by go_num,by omega,by have hM:=HM.out;simp only [List.drop_drop] at hM;rw [Option.map_map] at hM;rw [←hM];congr 1;funext x;simp,HR8.out,HB8.out⟩
        case measure=>simp [intOf];omega
    · obtain rfl:j=N:=by omega
      rw [Nat.sub_self] at hm
      unfold manyS at hm
      rw [List.length_drop,HLen.out] at hm
      by_cases ha:n - a=0
      · obtain rfl:a=n:=by omega
        rw [if_pos ha] at hm
        simp only [Option.map_some,List.append_nil] at hm
        subst hm
        have hr:=HR.out
        simp only at hr
        obtain ⟨q,d,rfl,hrd⟩:=hrow.rd (D:=DSlr) rfl (fun _ h=>h)
        obtain ⟨z,hz⟩ : ∃ z,errL l=z:=⟨_,rfl⟩
        rw [hz] at hr
        have HR2:=hidden hr
        have HZ:=hidden hz
        have HL:=hidden hrd
        have hnl:=hrd.le
        clear hr HR hrow hrd hby HO hz ha
        rename World=>wo
        have hj16:l.length≤16:=by omega
        have HLJ:=hidden hlj
        have hl16:l.length≤16:=by omega
        clear hlj
        go_upto_region 30 with fail
        go_wp2_with fail
        go_loopw [16] (fun i wr=>∃ k:Nat,k≤l.length∧i=.int .i64 k∧errL (l.drop k)=z∧Below w.heap.size w wr∧Below wo.heap.size wo wr) (fun i _=>l.length - (intOf i).toNat)
        case atStart=>exact ⟨0,by omega,rfl,by rw [List.drop_zero];exact HZ.out,HB.out,Below.refl _ _⟩
        case round =>
          obtain ⟨k,hk,rfl,he,hb2,hb3⟩:=hrel
          have HB2:=hidden hb2
          have HB3:=hidden hb3
          by_cases hlt:k<l.length
          · have hlt':(k:Int)<l.length:=by omega
            rw [errL_drop l k hlt] at he
            obtain ⟨g,rfl,c0,c1,c2,c3,c4,c5,c6,c7,c8,-⟩:=rd_sl (HL.out.below hb3) k hlt
            obtain ⟨s,hs⟩ : ∃ s,l[k]=s:=⟨_,rfl⟩
            rw [hs] at he c0 c1 c2 c3 c4 c5 c6 c7 c8
            obtain ⟨y,hy⟩ : ∃ y,checkS s=y:=⟨_,rfl⟩
            rw [hy] at he
            have HC:=hidden (rscheck_at s y hy)
            have HHE:=hidden he
            have hb9:k*9+8≤9223372036854775807*9:=by omega
            clear hs hy hb2 hb3 he
            by_cases hz0':y=0
            · subst hz0'
              go_wp2_with (first
                | (go_at_call 58;(with_reducible refine (HC.out _).mono ?_);rintro e w1 ⟨rfl,hb1⟩;have HB4:=hidden (HB2.out.trans (hb1.mono HB2.out.size));have HB5:=hidden (HB3.out.trans (hb1.mono HB3.out.size));clear hb1)
                | fail)
              go_roundw
              case rel=>exact ⟨k+1,by omega,by go_num,by have:=HHE.out;simpa using this,HB4.out,HB5.out⟩
              case measure=>simp [intOf];omega
            · have hz':(y != 0)=true:=by simpa using hz0'
              have hEz:y=z:=by have:=HHE.out;rw [if_pos hz0'] at this;exact this
              subst hEz
              have HE2:=hidden (show ([],y)=r by have:=HR2.out;rw [if_pos hz0'] at this;exact this)
              clear hz0' HHE HR2
              go_wp2_with (first
                | (go_at_call 58;(with_reducible refine (HC.out _).mono ?_);rintro e w1 ⟨rfl,hb1⟩;have HB4:=hidden (HB2.out.trans (hb1.mono HB2.out.size));clear hb1)
                | fail)
              go_ret2
              exact parsed_none _ _ _ _ HE2.out HB4.out
          · obtain rfl:k=l.length:=by omega
            rw [List.drop_length] at he
            have he':(0:Int)=z:=he
            subst he'
            have HE2:=hidden (show (l,0)=r by have:=HR2.out;rw [if_neg (by simp)] at this;exact this)
            have HRW2:=hidden (HRW.out.below hb3)
            clear hb2 hb3 he HR2
            go_wp2
            go_ret2
            rw [←HE2.out]
            exact ⟨_,rfl,HRW2.out,HB2.out⟩
      · rw [if_neg ha] at hm
        have hne:((a:Int) != n)=true:=by simp;omega
        simp only [Option.map_none] at hm
        subst hm
        clear hrow hby hb HRW
        go_wp2
        go_ret2
        exact parsed_none _ _ _ _ HR.out HB.out
end Go.Proofs.YtgpigjoonhghhaaGreat

namespace Go.Proofs.YtgpigjoonhghhaaGreat
open Go.RowKit
set_option linter.unusedVariables false
set_option maxHeartbeats 3200000 in
set_option maxRecDepth 100000 in
theorem mkpay36 (W w:World) (k:Nat) (h:Cod W w k):Calls Tryz.prog 15 #[.pointer (some ⟨k,0,none⟩),.int .i64 36] w (MadePv W w k 36):=by
  have hk:=h.lt
  have hbase:=h.bel.size
  have H0:=hidden (PyS.new h 36)
  clear h
  go_enter Tryz.func15,Tryz.ntmps15
  go_upto_region 2 with fail
  generalize hw0:(w.alloc (.cells #[.int .i64 0,.slice none 0 0,.int .i64 0,.slice none 0 0,.int .i64 0,.slice none 0 0,.int .i64 0,.slice none 0 0,.int .i64 0,.slice none 0 0,.int .i64 0,.slice none 0 0,.int .i64 0,.slice none 0 0,.slice none 0 0,.slice none 0 0] 49)).alloc (.cells #[.int .i64 36,.slice none 0 0,.int .i64 0,.slice none 0 0,.int .i64 0,.slice none 0 0,.int .i64 0,.slice none 0 0,.int .i64 0,.slice none 0 0,.int .i64 0,.slice none 0 0,.int .i64 0,.slice none 0 0,.slice none 0 0,.slice none 0 0] 49)=w0 at *
  clear hw0
  have hk0:k<w0.heap.size:=by have:=H0.out.ge;omega
  go_upto_region 2 with fail
  go_upto_block 0 with fail
  go_cut [] from 9 to 114 (fun wx=>∃ (t:Int) (p:Option Addr) (n c:Nat) (ys:List Int),PyS W w wx k ⟨36,nilV,0,nilV,t,⟨p,n,c⟩,0,nilV,0,nilV,0,nilV,0,nilV,nilV,nilV⟩∧(0≤t∧t≤65535)∧((t=2∨t=3∨t=11)∧1≤n∧n≤100)∧∀ w',Kpt wx w' (w.heap.size+2)→Byt w' p n c ys)
  case first =>
    go_wp2_with fail
    go_region_law (first
      | (go_simp;go_at_call_of 10 (Value.int IntKind.i64 3);(with_reducible refine (next_pa H0 hk _ ?_ _ ?_).mono ?_);(repeat' (first | with_reducible exact H0.out | (with_reducible refine PyS.alloc ?_ _) | (with_reducible refine PyS.drew ?_)));omega;rintro e wA ⟨j,rfl,j0,j1,hdA,hgA⟩;obtain ⟨j,rfl⟩:=Int.eq_ofNat_of_zero_le j0;obtain ⟨t,hta,htl,t0,t1,tv⟩:=lst35 j (by omega);(try have hcA:wA.cell? ⟨w0.heap.size,j,none⟩=some (.int .i64 t):=row_cell w0 wA k _ _ j _ htl hk0 (grown_trans (grown_drewN _ 1 _) hgA)))
      | (go_simp;go_at_call_of 10 (Value.int IntKind.i64 6);(with_reducible refine (next_pa H0 hk _ ?_ _ ?_).mono ?_);(first | exact hdA | exact hdA.alloc _);omega;rintro e wB ⟨v,rfl,v0,v1,hdB,hgB⟩;obtain ⟨v,rfl⟩:=Int.eq_ofNat_of_zero_le v0;have hwv:IntKind.i64.wrap (1+(v:Int))=((1+v:Nat):Int):=(by rw [IntKind.wrap_i64];omega);have hkA:=hdA.cod.lt;(try have hcB:wB.cell? ⟨w0.heap.size,j,none⟩=some (.int .i64 t):=hgB.cell hcA (by simp;omega));(try have hcC:wB.cell? ⟨wA.heap.size,j,none⟩=some (.int .i64 t):=row_cell wA wB k _ _ j _ htl hkA hgB))
      | (go_simp;go_at_call 34;(refine (bytes_pa H0 hk _ ?_ (1+v) ?_).mono ?_);(first | exact hdB | exact hdB.alloc _);omega;rintro e wY ⟨p,c,ys,rfl,hbY,hdY,hgY⟩;have hkB:=hdB.cod.lt;(try have hcY1:wY.cell? ⟨w0.heap.size,j,none⟩=some (.int .i64 t):=hgY.cell hcB (by simp;omega));(try have hcY2:wY.cell? ⟨wA.heap.size,j,none⟩=some (.int .i64 t):=hgY.cell hcC (by simp;omega));(try have hcY3:wY.cell? ⟨wB.heap.size,j,none⟩=some (.int .i64 t):=row_cell wB wY k _ _ j _ htl hkB hgY);have hn1:¬ w.heap.size+1=wY.heap.size:=(by have:=hdY.ge;omega);have hn2:¬ w.heap.size=wY.heap.size:=(by have:=hdY.ge;omega);have hn3:¬ wY.heap.size=w.heap.size+1:=(by have:=hdY.ge;omega);have hn4:¬ wY.heap.size=w.heap.size:=(by have:=hdY.ge;omega);have hq1:w.heap.size+1<wY.heap.size:=(by have:=hdY.ge;omega);have hq2:w.heap.size<wY.heap.size:=(by have:=hdY.ge;omega);have s4:=hdY.S.c4;have s5:=hdY.S.c5;have sf:=hdY.S.fr;simp only [zeroP,nilV] at s4 s5;have HDY:=hidden hdY;have HBY:=hidden hbY;clear hdY hbY))
    all_goals
      clear s4 s5 sf
      go_wp2
      go_meet
    all_goals first
      | (have q:=hcY1;clear q;exact ⟨t,p,(1+v),c,ys,(HDY.out.put hk hbase (wy:=((wY.setCell ⟨w.heap.size+1,4,none⟩ (.int .i64 t)).setCell ⟨w.heap.size+1,5,none⟩ (.slice p (1+v) c))) (grown_trans (grown_set _ _ _ _) (grown_set _ _ _ _)) (x':=⟨36,nilV,0,nilV,t,⟨p,(1+v),c⟩,0,nilV,0,nilV,0,nilV,0,nilV,nilV,nilV⟩) (HDY.out.S.setI t ⟨p,(1+v),c⟩)),⟨t0,t1⟩,⟨tv,by omega,by omega⟩,fun w' hk'=>HBY.out.kp (((Kpt.low (grown_set _ _ _ _) (by omega)).trans (Kpt.low (grown_set _ _ _ _) (by omega))).trans hk')⟩)
      | (have q:=hcY2;clear q;exact ⟨t,p,(1+v),c,ys,(HDY.out.put hk hbase (wy:=((wY.setCell ⟨w.heap.size+1,4,none⟩ (.int .i64 t)).setCell ⟨w.heap.size+1,5,none⟩ (.slice p (1+v) c))) (grown_trans (grown_set _ _ _ _) (grown_set _ _ _ _)) (x':=⟨36,nilV,0,nilV,t,⟨p,(1+v),c⟩,0,nilV,0,nilV,0,nilV,0,nilV,nilV,nilV⟩) (HDY.out.S.setI t ⟨p,(1+v),c⟩)),⟨t0,t1⟩,⟨tv,by omega,by omega⟩,fun w' hk'=>HBY.out.kp (((Kpt.low (grown_set _ _ _ _) (by omega)).trans (Kpt.low (grown_set _ _ _ _) (by omega))).trans hk')⟩)
      | (have q:=hcY3;clear q;exact ⟨t,p,(1+v),c,ys,(HDY.out.put hk hbase (wy:=((wY.setCell ⟨w.heap.size+1,4,none⟩ (.int .i64 t)).setCell ⟨w.heap.size+1,5,none⟩ (.slice p (1+v) c))) (grown_trans (grown_set _ _ _ _) (grown_set _ _ _ _)) (x':=⟨36,nilV,0,nilV,t,⟨p,(1+v),c⟩,0,nilV,0,nilV,0,nilV,0,nilV,nilV,nilV⟩) (HDY.out.S.setI t ⟨p,(1+v),c⟩)),⟨t0,t1⟩,⟨tv,by omega,by omega⟩,fun w' hk'=>HBY.out.kp (((Kpt.low (grown_set _ _ _ _) (by omega)).trans (Kpt.low (grown_set _ _ _ _) (by omega))).trans hk')⟩)
      | (exact ⟨t,p,(1+v),c,ys,(HDY.out.put hk hbase (wy:=((wY.setCell ⟨w.heap.size+1,4,none⟩ (.int .i64 t)).setCell ⟨w.heap.size+1,5,none⟩ (.slice p (1+v) c))) (grown_trans (grown_set _ _ _ _) (grown_set _ _ _ _)) (x':=⟨36,nilV,0,nilV,t,⟨p,(1+v),c⟩,0,nilV,0,nilV,0,nilV,0,nilV,nilV,nilV⟩) (HDY.out.S.setI t ⟨p,(1+v),c⟩)).alloc _,⟨t0,t1⟩,⟨tv,by omega,by omega⟩,fun w' hk'=>HBY.out.kp ((((Kpt.low (grown_set _ _ _ _) (by omega)).trans (Kpt.low (grown_set _ _ _ _) (by omega))).trans (Kpt.alloc _ _ _)).trans hk')⟩)
  case rest =>
    obtain ⟨t,p,n,c,ys,hd,ht,hv,hy⟩:=hcut
    have HV:=hidden hv
    clear hv
    have H2:=hidden hd
    have HY:=hidden hy
    have HT:=hidden ht
    rename World=>w2
    clear hd hy ht
    obtain ⟨y0,y1,y2,y3,y4,y5,y6,y7,y8,y9,y10,y11,y12,y13,y14,y15,z0_,z1_,z2_,z3_,z4_,z5_,z6_,z7_,z8_,z9_,z10_,z11_,z12_,z13_,z14_,z15_,zf⟩:=H2.out.R.any
    obtain ⟨s0,s1,s2,s3,s4,s5,s6,s7,s8,s9,s10,s11,s12,s13,s14,s15,sf⟩:=H2.out.S
    simp only [nilV] at s0 s1 s2 s3 s4 s5 s6 s7 s8 s9 s10 s11 s12 s13 s14 s15
    go_wp2
    have hz:=H2.out.ret hk hbase (wy:=w2) (grown_refl _ _) ⟨36,nilV,0,nilV,t,⟨p,n,c⟩,0,nilV,0,nilV,0,nilV,0,nilV,nilV,nilV⟩
    simp only [setPv,nilV] at hz
    exact ret_pv1 (g:=w.heap.size) rfl rfl rfl hz.1 (made_plain (C:={ C0 with id:=ys }) rfl rfl rfl (fun w' hk'=>⟨rdg_nil _ _ _,byt_nil _,HY.out w' hk',byt_nil _,byt_nil _,byt_nil _,rdg_nil _ _ _,rdg_nil _ _ _,byt_nil _⟩) hz.2.1 hz.2.2.1 hz.2.2.2 ((vld36 rfl).2 HV.out))
end Go.Proofs.YtgpigjoonhghhaaGreat
