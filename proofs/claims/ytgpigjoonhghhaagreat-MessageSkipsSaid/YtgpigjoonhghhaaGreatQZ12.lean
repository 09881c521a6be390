/-
 The document's own Same of proposals, and package payload's comparison of proposals, of notifications and of lists of bytes: each says yes just where both read alike.
 Package payload's comparison of proposals, of notifications and of lists of bytes: each says yes just where both read alike.
-/
import Derived.Test.YtgpigjoonhghhaaGreatQZ11
import Derived.Test.YtgpigjoonhghhaaGreatQZ2
namespace Go.Proofs.YtgpigjoonhghhaaGreat
open Go.RowKit
set_option linter.unusedVariables false
set_option maxHeartbeats 3200000 in
set_option maxRecDepth 100000 in
theorem same4_any (p q:Option Addr) (n c m d:Nat) (la lb:List PrP) (w:World) (h:RdG KPr DPr w p n c la) (k:RdG KPr DPr w q m d lb) :
  Calls Tryz.prog 67 #[.slice p n c,.slice q m d] w fun e w'=>e=.returned (.bool (decide (la.map PrP.pr=lb.map PrP.pr)))∧Below w.heap.size w w':=by
 have hn:=h.le
 have hm:=k.le
 have HA:=hidden h
 have HB:=hidden k
 have HL:Hid ((la.map PrP.pr).length=n):=hidden (by rw [List.length_map,h.len])
 have KL:Hid ((lb.map PrP.pr).length=m):=hidden (by rw [List.length_map,k.len])
 clear h k
 by_cases hnm:n=m
 rotate_left
 ·have hne:((n:Int) != (m:Int))=true:=by simp;omega
  have hd:=decide_eq_false (differ_len HL.out KL.out hnm)
  go_enter Tryz.func67,Tryz.ntmps67
  go_wp2
  go_ret
  exact ⟨by rw [hd];rfl,Below.refl _ _⟩
 subst hnm
 go_enter Tryz.func67,Tryz.ntmps67
 go_wp2_with fail
 go_loopw [5] (fun i wr=>∃ j:Nat,j≤n∧i=.int .i64 j∧(la.map PrP.pr).take j=(lb.map PrP.pr).take j∧Below w.heap.size w wr) (fun i _=>n - (intOf i).toNat)
 case atStart=>exact ⟨0,by omega,rfl,by simp,Below.refl _ _⟩
 case round =>
  obtain ⟨j,hj,rfl,ht,hbel⟩:=hrel
  have HBL:=hidden hbel
  have HT:=hidden ht
  clear hbel ht
  by_cases hlt:¬ j<n
  ·obtain rfl:j=n:=by omega
   have hd:=decide_eq_true (take_whole HL.out KL.out HT.out)
   go_wp2
   go_ret
   exact ⟨by rw [hd];rfl,HBL.out⟩
  replace hlt:j<n:=by omega
  have hlt':(j:Int)<n:=by omega
  have hja:j<la.length:=by rw [HA.out.len];exact hlt
  have hjb:j<lb.length:=by rw [HB.out.len];exact hlt
  obtain ⟨g,rfl,hc,hok⟩:=(HA.out.below HBL.out).cell j hja
  obtain ⟨g2,rfl,hc2,hok2⟩:=(HB.out.below HBL.out).cell j hjb
  obtain ⟨x,hx⟩ : ∃ x,la[j]=x:=⟨_,rfl⟩
  obtain ⟨y,hy⟩ : ∃ y,lb[j]=y:=⟨_,rfl⟩
  have hja':j<(la.map PrP.pr).length:=by rw [List.length_map];exact hja
  have hjb':j<(lb.map PrP.pr).length:=by rw [List.length_map];exact hjb
  have HNX:=hidden (fun (e:x.pr=y.pr)=>take_next hja' hjb' HT.out (by rw [List.getElem_map,List.getElem_map,hx,hy,e]))
  have HDF:=hidden (fun (e:x.pr≠y.pr)=>decide_eq_false (differ_at hja' hjb' (by rw [List.getElem_map,List.getElem_map,hx,hy];exact e)))
  rw [hx] at hc hok
  rw [hy] at hc2 hok2
  clear hx hy hja hjb hja' hjb' HT
  obtain ⟨xn,xp,xsp,xsn,xsc,xs,xtp,xtn,xtc,xts⟩:=x
  obtain ⟨yn,yp,ysp,ysn,ysc,ys,ytp,ytn,ytc,yts⟩:=y
  simp only [PrP.pr,Pr.mk.injEq,ne_eq] at HNX HDF
  have HXT:=hidden hok.ts.len
  have HYT:=hidden hok2.ts.len
  simp only at HXT HYT
  have hxtn:xtn≤9223372036854775807:=hok.ts.le
  have hytn:ytn≤9223372036854775807:=hok2.ts.le
  have c0:=hc 0 _ rfl
  have c1:=hc 1 _ rfl
  have c2:=hc 2 _ rfl
  have c3:=hc 3 _ rfl
  have d0:=hc2 0 _ rfl
  have d1:=hc2 1 _ rfl
  have d2:=hc2 2 _ rfl
  have d3:=hc2 3 _ rfl
  simp only [KPr,Nat.add_zero] at c0 c1 c2 c3 d0 d1 d2 d3
  have hby1:Byt wr xsp xsn xsc xs:=hok.s
  have hby2:Byt wr ysp ysn ysc ys:=hok2.s
  obtain ⟨bs,hbs⟩ : ∃ b,decide (xs=ys)=b:=⟨_,rfl⟩
  have HQ:=hidden (fun a=>(requal_any xsp ysp xsn xsc ysn ysc xs ys (wr.drewN a) (hby1.keep (fun _ _ h=>h)) (hby2.keep (fun _ _ h=>h))).mono (R':=fun e w'=>e=.returned (.bool bs)∧∃ r,w'=(wr.drewN a).drewN r) (fun e w' ⟨h1,h2⟩=>⟨by rw [h1,hbs],h2⟩))
  have HBS:=hidden hbs
  have HCA:=hidden (fun W (hb:Below wr.heap.size wr W)=>cell_below hb _ _ (hc 3 _ rfl))
  have HCB:=hidden (fun W (hb:Below wr.heap.size wr W)=>cell_below hb _ _ (hc2 3 _ rfl))
  have HTA:Hid (RdG KTr DTr wr xtp xtn xtc xts):=hidden hok.ts
  have HTB:Hid (RdG KTr DTr wr ytp ytn ytc yts):=hidden hok2.ts
  simp only [KPr] at HCA HCB
  clear hc hc2 hok hok2 hby1 hby2 hbs
  by_cases h1:xn=yn
  rotate_left
  ·have e1:(xn != yn)=true:=by simpa using h1
   have HD:=hidden (HDF.out (fun h=>h1 h.1))
   clear h1
   go_wp2
   go_quiet ((go_at_call 69;(with_reducible exact Calls.quiet_of (HQ.out _))))
   go_wp2
   go_ret
   exact ⟨by rw [HD.out];rfl,HBL.out.trans (drew_below ⟨_,rfl⟩)⟩
  subst h1
  have e1:(xn != xn)=false:=by simp
  by_cases h2:xp=yp
  rotate_left
  ·have e2:(xp != yp)=true:=by simpa using h2
   have HD:=hidden (HDF.out (fun h=>h2 h.2.1))
   clear h2
   go_wp2
   go_quiet ((go_at_call 69;(with_reducible exact Calls.quiet_of (HQ.out _))))
   go_wp2
   go_ret
   exact ⟨by rw [HD.out];rfl,HBL.out.trans (drew_below ⟨_,rfl⟩)⟩
  subst h2
  have e2:(xp != xp)=false:=by simp
  cases bs with
  | false =>
   have HD:=hidden (HDF.out (fun h=>of_decide_eq_false HBS.out h.2.2.1))
   go_wp2
   go_quiet ((go_at_call 69;(with_reducible exact Calls.quiet_of (HQ.out _))))
   go_wp2
   go_ret
   exact ⟨by rw [HD.out];rfl,HBL.out.trans (drew_below ⟨_,rfl⟩)⟩
  | true =>
   by_cases h4:xtn=ytn
   rotate_left
   ·have e4:((xtn:Int) != ytn)=true:=by simp;omega
    have HD:=hidden (HDF.out (fun h=>h4 (by rw [←HXT.out,←HYT.out,h.2.2.2])))
    clear h4
    go_wp2
    go_quiet ((go_at_call 69;(with_reducible exact Calls.quiet_of (HQ.out _))))
    go_wp2
    go_ret
    exact ⟨by rw [HD.out];rfl,HBL.out.trans (drew_below ⟨_,rfl⟩)⟩
   subst h4
   have e4:((xtn:Int) != xtn)=false:=by simp
   go_wp2
   go_quiet ((go_at_call 69;(with_reducible exact Calls.quiet_of (HQ.out _))))
   have HBQ:=hidden (drew_below (B:=wr.heap.size) (w:=wr) (w':=wr.drewN nq) ⟨nq,rfl⟩)
   clear c0 c1 c2 c3 d0 d1 d2 d3 e1 e2 e4 HQ
   go_wp2_with fail
   go_loopw [6] (fun i wq=>∃ t:Nat,t≤xtn∧i=.int .i64 t∧xts.take t=yts.take t∧Below wr.heap.size wr wq) (fun i _=>xtn - (intOf i).toNat)
   case atStart=>exact ⟨0,by omega,rfl,by simp,HBQ.out⟩
   case round =>
    obtain ⟨t,ht,rfl,htk,hbq⟩:=hrel
    have e3:=HCA.out _ hbq
    have f3:=HCB.out _ hbq
    have HB2:=hidden hbq
    have HTK:=hidden htk
    clear htk
    by_cases htl:¬ t<xtn
    ·obtain rfl:t=xtn:=by omega
     have HN:=hidden (HNX.out ⟨trivial,trivial,of_decide_eq_true HBS.out,take_whole HXT.out HYT.out HTK.out⟩)
     clear hbq
     go_wp2
     go_roundw
     case rel=>exact ⟨j+1,by omega,by go_num,HN.out,HBL.out.trans (HB2.out.mono HBL.out.size)⟩
     case measure=>simp [intOf];omega
    replace htl:t<xtn:=by omega
    have htl':(t:Int)<xtn:=by omega
    have hta:t<xts.length:=by rw [HTA.out.len];exact htl
    have htb:t<yts.length:=by rw [HTB.out.len];exact htl
    obtain ⟨ga,rfl,ha,-⟩:=(HTA.out.below hbq).cell t hta
    obtain ⟨gb,rfl,hb,-⟩:=(HTB.out.below hbq).cell t htb
    obtain ⟨z,hz⟩ : ∃ z,xts[t]=z:=⟨_,rfl⟩
    obtain ⟨z',hz'⟩ : ∃ z',yts[t]=z':=⟨_,rfl⟩
    rw [hz] at ha
    rw [hz'] at hb
    have a0:=ha 0 _ rfl
    have a1:=ha 1 _ rfl
    have a2:=ha 2 _ rfl
    have b0:=hb 0 _ rfl
    have b1:=hb 1 _ rfl
    have b2:=hb 2 _ rfl
    simp only [KTr,Nat.add_zero] at a0 a1 a2 b0 b1 b2
    clear ha hb hbq
    by_cases hzz:z=z'
    ·have HN:=hidden (take_next hta htb HTK.out (by rw [hz,hz',hzz]))
     subst hzz
     clear hz hz' hta htb HTK
     obtain ⟨zt,zi,zk⟩:=z
     have hqe:=fun w=>eq_trN w zt zi zk
     simp only at a0 a1 a2 b0 b1 b2
     go_wp2
     go_quiet (fail)
     go_wp2
     go_roundw
     case rel=>exact ⟨t+1,by omega,by go_num,HN.out,HB2.out.trans (drew_below ⟨_,rfl⟩)⟩
     case measure=>simp [intOf];omega
    ·have HD:=hidden (HDF.out (fun h=>differ_at hta htb (by rw [hz,hz'];exact hzz) h.2.2.2))
     have hqn:=fun w=>ne_trN w z z' hzz
     clear hz hz' hta htb HTK hzz
     go_wp2
     go_quiet (fail)
     go_wp2
     go_ret
     exact ⟨by rw [HD.out];rfl,HBL.out.trans ((HB2.out.trans (drew_below ⟨_,rfl⟩)).mono HBL.out.size)⟩
end Go.Proofs.YtgpigjoonhghhaaGreat

namespace Go.Proofs.YtgpigjoonhghhaaGreat
open Go.RowKit
set_option linter.unusedVariables false
theorem below2 (w:World) (o o':Obj):Below w.heap.size w ((w.alloc o).alloc o'):=((Below.refl w.heap.size w).alloc (Nat.le_refl _) _).alloc (by simp) _
structure Nt where
 p:Int
 sp:Option Addr
 sn:Nat
 sc:Nat
 s:List Int
 t:Int
 dp:Option Addr
 dn:Nat
 dc:Nat
 d:List Int
end Go.Proofs.YtgpigjoonhghhaaGreat
