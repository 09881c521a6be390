/-
  What the document's own Build of proposals returns.
-/
import Derived.Test.YtgpigjoonhghhaaGreatQZ16
import Derived.Test.YtgpigjoonhghhaaGreatQZ2
import Derived.Deep.CutBlock
import Derived.Deep.RegionHeld3
namespace Go.Proofs.YtgpigjoonhghhaaGreat
open Go.RowKit
set_option linter.unusedVariables false
theorem rput_r (p:Option Addr) (n c:Nat) (xs:List Int) (w:World) (h:Byt w p n c xs) (hb:n≤140737488355000) (v:Int) (hv:0≤v∧v≤18446744073709551615) (ys:List Int) (hys:xs++be 2 v=ys) (m:Nat) (hm:n+2=m) :
    Calls Tryz.prog 20 #[.slice p n c,.int .u64 v,.int .i64 2] w (OwnR w m ys):=by
  subst hys hm
  have hl:(xs++be 2 v).length=n+2:=by rw [List.length_append,be_len,h.len]
  refine (rput_yes p n c xs w h hb v hv 2 (by omega) (by omega)).mono ?_
  rintro e w' ⟨u,rfl,hown,hbel⟩
  obtain ⟨q,d,rfl,hby⟩:=hown.bytN rfl hl (rng_append h.rng (be_rng _ _))
  exact ⟨q,d,rfl,hown,hby,hbel⟩
theorem encT_tail (more:Int) (x:Tr) (h:OkT x) (L:Int) (hL:L=lenT x):encT more x=(([more,0]++be 2 L)++([x.t,0]++be 2 x.i))++(if x.k≠0 then be 2 32782++be 2 x.k else []):=by
  have ht:=h.t
  subst hL
  unfold encT
  rw [show x.t % 256=x.t by omega]
  simp
theorem Own.kept_ne {w w':World} {base:Nat} {e:TypeId} {v:Value} {xs:List Int} {row:Option Nat} (h:Own w base e v xs) (hg:w.grownBy w' row) (hne : ∀ k,v.ownBlock=some k→row≠some k):Own w' base e v xs :=
  World.ownsRow.kept h hg (by
    rcases hv:v.ownBlock with _ | b
    · exact Or.inl rfl
    · exact Or.inr (fun e=>hne b hv e.symm))
theorem byt_lit5 (w:World) (xs:List Int) (T:TypeId) (hl:xs.length≤1000) (hr : ∀ x∈xs,0≤x∧x≤255):Byt (w.alloc (.cells (xs.map (Value.int .u8)).toArray T)) (some ⟨w.heap.size,0,none⟩) xs.length xs.length xs :=
  ⟨rfl,Nat.le_refl _,by unfold maxLen;omega,hr,fun hn=>⟨w.heap.size,0,rfl,fun i hi=>by
    rw [World.cell?_alloc_at _ _ _ _ rfl]
    simp [List.getD_eq_getElem?_getD,List.getElem?_eq_getElem hi]⟩⟩
theorem secE_inP (mk n p:Int) (s zs:List Int) (ts:List Tr) (sn tn:Nat) (hz:zs=encTs ts) (hs:s.length=sn) (ht:ts.length=tn) (h1:n % 256=n) (h2:p % 256=p) (h3:(sn:Int) % 256=sn) (h4:(tn:Int) % 256=tn) (xs:List Int) :
    (((xs++[mk,0]++be 2 (8+(sn:Int)+(zs.length:Int)))++[n,p,(sn:Int),(tn:Int)])++s)++zs=xs++secE mk (inP ⟨n,p,s,ts⟩):=by
  subst hz hs ht
  unfold secE inP
  simp only [h1,h2,h3,h4]
  have e:4+(([n,p,(s.length:Int),(ts.length:Int)]++(s++encTs ts)).length:Int)=8+(s.length:Int)+((encTs ts).length:Int):=by
    simp
    omega
  rw [e]
  simp
set_option maxHeartbeats 12800000 in
set_option maxRecDepth 100000 in
theorem rbuild_any (p:Option Addr) (n c:Nat) (ls:List PrP) (w:World) (h:RdG KPr DPr w p n c ls) (L:List Int) (E:Int) (hE:buildP (ls.map PrP.pr)=(L,E)) :
    Calls Tryz.prog 36 #[.slice p n c] w (BuiltP w L E):=by
  obtain ⟨i0,hi0,hz0,hz1,hz2⟩:=info_parts Tryz.infoByte
  have hn:=h.le
  have HT:=hidden h
  have HTL:=hidden h.len
  obtain ⟨E1,hE1⟩ : ∃ E1,checkP (ls.map PrP.pr)=E1:=⟨_,rfl⟩
  have HC:=hidden (rcheckAll_any p n c ls w h E1 hE1)
  unfold buildP at hE
  rw [hE1] at hE
  clear h
  by_cases hz:E1≠0
  · rw [if_pos hz] at hE
    simp at hE
    obtain ⟨rfl,rfl⟩:=hE
    have hz':(E1 != 0)=true:=by simpa using hz
    go_enter Tryz.func36,Tryz.ntmps36
    go_wp2_with fail
    go_at_call 57
    (with_reducible refine (HC.out).mono ?_)
    rintro e w1 ⟨rfl,hb1⟩
    go_wp2
    go_ret2
    exact ⟨_,rfl,Own.nil _ _ _,hb1⟩
  obtain rfl:E1=0:=by omega
  rw [if_neg (by simp)] at hE
  simp at hE
  obtain ⟨rfl,rfl⟩:=hE
  obtain ⟨q0,q1,q2⟩:=checkP_ok hE1
  rw [List.length_map,HTL.out] at q0 q1
  have HOK:=hidden q2
  clear hz q2 hE1
  go_enter Tryz.func36,Tryz.ntmps36
  go_wp2_with fail
  go_at_call 57
  (with_reducible refine (HC.out).mono ?_)
  rintro e w1 ⟨rfl,hb1⟩
  have HB1:=hidden hb1
  clear hb1 HC
  go_wp2_with fail
  go_loopw [5,6] (fun u i wr=>∃ t:Nat,t≤n∧i=.int .i64 t∧∃ xs:List Int,xs++encPs ((ls.map PrP.pr).drop t)=encPs (ls.map PrP.pr)∧xs.length≤t*304∧(∀ z∈xs,0≤z∧z≤255)∧Own wr w.heap.size 5 u xs∧Below w.heap.size w wr) (fun _ i _=>n - (intOf i).toNat)
  case atStart=>exact ⟨0,by omega,rfl,[],by simp,by simp,by simp,Own.nil _ _ _,HB1.out⟩
  case round =>
    rename World=>wo
    obtain ⟨j,hj,rfl,xs,hxs,hxl,hxr,ho,hbl⟩:=hrel
    have HO:=hidden ho
    have HBL:=hidden hbl
    have HXS:=hidden hxs
    have HXR:=hidden hxr
    by_cases hlt:¬ j<n
    · obtain rfl:j=n:=by omega
      rw [List.drop_of_length_le (by rw [List.length_map,HTL.out];exact Nat.le_refl _),encPs,List.append_nil] at hxs
      have HXS2:=hidden hxs
      clear hxs hbl ho hxr
      go_wp2
      go_ret2
      rw [←HXS2.out]
      exact ⟨_,rfl,HO.out,HBL.out⟩
    replace hlt:j<n:=by omega
    have hlt':(j:Int)<n:=by omega
    obtain ⟨g,rfl,hc,hokd⟩:=HT.out.cell j (by rw [HTL.out];exact hlt)
    obtain ⟨y,hy⟩ : ∃ y,ls[j]'(by rw [HTL.out];exact hlt)=y:=⟨_,rfl⟩
    have hyo:OkP y.pr:=HOK.out _ (by rw [←hy];exact List.mem_map.2 ⟨_,List.getElem_mem _,rfl⟩)
    have hst:=encPs_step (ls.map PrP.pr) j (by rw [List.length_map,HTL.out];exact hlt) y.pr (by simp [hy])
    rw [hy] at hc hokd
    rw [List.length_map,HTL.out] at hst
    obtain ⟨yn,yp,sp,sn,sc,s,tp,tn,tc,ts⟩:=y
    have hsl:s.length=sn:=hokd.s.len
    have htl:ts.length=tn:=hokd.ts.len
    have k1:=hyo.n
    have k2:=hyo.p
    have k3:=hyo.s
    have k4:=hyo.few
    simp only [PrP.pr] at k1 k2 k3 k4
    rw [hsl] at k3
    rw [htl] at k4
    have HTO:=hidden hyo.ts
    have HTS:Hid (RdG KTr DTr w tp tn tc ts):=hidden hokd.ts
    have HSP:Hid (Byt w sp sn sc s):=hidden hokd.s
    have HSL:=hidden hsl
    have HTSL:=hidden htl
    have hcc:=hc 3 _ rfl
    have hcc2:=hc 2 _ rfl
    have hcc1:=hc 1 _ rfl
    have hcc0:=hc 0 _ rfl
    simp only [KPr,Nat.add_zero] at hcc hcc2 hcc1 hcc0
    have HC3:=hidden hcc
    have HC2:=hidden hcc2
    have HC1:=hidden hcc1
    have HC0:=hidden hcc0
    have HST:=hidden hst
    clear hc hokd hy hyo hst hxs hbl ho hxr hsl htl hcc hcc2 hcc1 hcc0
    have f3:=cell_below HBL.out _ _ HC3.out
    have hwy:IntKind.u8.wrap yn=yn:=by rw [IntKind.wrap_u8];omega
    have hwp:IntKind.u8.wrap yp=yp:=by rw [IntKind.wrap_u8];omega
    have hws:IntKind.u8.wrap (sn:Int)=sn:=by rw [IntKind.wrap_u8];omega
    have hwt:IntKind.u8.wrap (tn:Int)=tn:=by rw [IntKind.wrap_u8];omega
    go_wp2_with fail
    go_loopw [7,8] (fun u i wq=>∃ t:Nat,t≤tn∧i=.int .i64 t∧∃ zs:List Int,zs++encTs (ts.drop t)=encTs ts∧zs.length≤t*12∧(∀ z∈zs,0≤z∧z≤255)∧Own wq wo.heap.size 5 u zs∧Below wo.heap.size wo wq) (fun _ i _=>tn - (intOf i).toNat)
    case atStart=>exact ⟨0,by omega,rfl,[],by simp,by simp,by simp,Own.nil _ _ _,Below.refl _ _⟩
    case round =>
      rename World=>wq
      obtain ⟨t,ht,rfl,zs,hzs,hzl,hzr,ho,hbl⟩:=hrel
      have HOZ:=hidden ho
      have HBZ:=hidden hbl
      have HBW:=hidden (HBL.out.trans (hbl.mono HBL.out.size))
      have HZS:=hidden hzs
      have HZR:=hidden hzr
      clear f3
      have e3:=cell_below HBW.out _ _ HC3.out
      have hqs:=HBZ.out.size
      have hos:=HBL.out.size
      by_cases htt:¬ t<tn
      · obtain rfl:t=tn:=by omega
        rw [List.drop_of_length_le (by rw [HTSL.out];exact Nat.le_refl _),encTs,List.append_nil] at hzs
        have HZ2:=hidden hzs
        have HOX:=hidden (HO.out.below HBZ.out)
        have HSL2:=HSL.out
        obtain ⟨mk,hmk,hmd⟩ : ∃ mk:Int,(if j+1<n then (2:Int) else 0)=mk∧((((j:Int) == (n:Int) - 1)=true∧mk=0)∨(((j:Int) == (n:Int) - 1)=false∧mk=2)):=by
          by_cases hh:j+1<n
          · exact ⟨2,by rw [if_pos hh],Or.inr ⟨by simp;omega,rfl⟩⟩
          · exact ⟨0,by rw [if_neg hh],Or.inl ⟨by simp;omega,rfl⟩⟩
        have hst:=HST.out
        rw [hmk] at hst
        have HST2:=hidden hst
        have hmb:0≤mk∧mk≤255:=by omega
        obtain ⟨q,d,rfl,hzy⟩:=HOZ.out.bytN rfl rfl HZR.out
        have HZY:=hidden hzy
        clear hzs hbl ho hzr HZS hzy hmk hst HST
        go_upto_if 84 with fail
        go_cut [12] from 80 to 84 (fun a w'=>a=.int .u8 mk∧wq=w')
        case first =>
          rcases hmd with ⟨ha,rfl⟩ | ⟨ha,rfl⟩
          all_goals
            go_wp2
            go_meet
            case rel=>exact ⟨rfl,rfl⟩
        case rest =>
          obtain ⟨rfl,rfl⟩:=hcut
          clear hmd
          have hwi1:IntKind.i64.wrap (8+(sn:Int))=8+(sn:Int):=by rw [IntKind.wrap_i64];omega
          have hwi2:IntKind.i64.wrap (8+(sn:Int)+(zs.length:Int))=8+(sn:Int)+(zs.length:Int):=by rw [IntKind.wrap_i64];omega
          have hwu2:IntKind.u64.wrap (8+(sn:Int)+(zs.length:Int))=8+(sn:Int)+(zs.length:Int):=wraps_u64 _ (by omega) (by omega)
          have e2:=cell_below HBW.out _ _ HC2.out
          have e2a:(wq.alloc (.cells #[.int .u8 mk,.int .u8 0] 5)).cell? ⟨g,j*4+2,none⟩=some (.slice sp sn sc):=cell_below ((Below.refl _ wq).alloc (Nat.le_refl _) _) _ _ e2
          have HOD:Hid (Own wq.drew w.heap.size 5 u5 xs):=hidden (HOX.out.below (drew_below ⟨1,rfl⟩))
          have HBD:Hid (Below w.heap.size w wq.drew):=hidden (HBW.out.trans (drew_below ⟨1,rfl⟩))
          have HZB:=hidden (show zs.length≤288 by omega)
          have HX2:=hidden (show (xs++[mk,0]).length=xs.length+2 by simp)
          have HXR2:=hidden (rng_append HXR.out (show ∀ z∈[mk,0],0≤z∧z≤255 by intro z hz;simp at hz;omega))
          go_wp2
          have hqx : ∀ k,(Value.slice q zs.length d).ownBlock=some k→wo.heap.size≤k∧k<wq.heap.size:=fun k hk=>HOZ.out.lt k hk
          have hux : ∀ k,u5.ownBlock=some k→k<wo.heap.size:=fun k hk=>(HO.out.lt k hk).2
          have HQX:=hidden hqx
          have HUX:=hidden hux
          clear hqx hux
          go_cut [5] from 85 to 100 (fun a w'=>Own w' wq.heap.size 5 a (xs++[mk,0]++be 2 (8+(sn:Int)+(zs.length:Int)))∧Own w' wo.heap.size 5 (.slice q zs.length d) zs∧Below w.heap.size w w'∧wq.heap.size≤w'.heap.size)
          case first =>
            have e2b:(wq.drew.alloc (.cells #[.int .u8 mk,.int .u8 0] 5)).cell? ⟨g,j*4+2,none⟩=some (.slice sp sn sc):=e2a
            go_wp2_with fail
            go_region_held3 (fun w'=>w'.cell? ⟨g,j*4+2,none⟩=some (.slice sp sn sc)) (first | exact e2 | exact e2b | exact c2 | exact cell_below hb3 _ _ c2 | go_keep)
              ((first
              | (go_at_call 20;(with_reducible refine (rput_r pu (xs.length+2) cu (xs++[mk,0]) _ hyu (by omega) (8+(sn:Int)+(zs.length:Int)) (by omega) _ rfl _ rfl).mono ?_);rintro e w3 ⟨q3,d3,rfl,ho3,hy3,hb3⟩)
              | (refine step_append_byt _ (by rfl) _ _ 22 (by rfl) w.heap.size 5 i0 (.int .u8 0) Tryz.underlying22 hi0 hz0 hz1 hz2 rfl _ _ (by rfl) (HOD.out.alloc _) _ _ _ _ [mk,0] (by rfl) (two_byt hmb (by omega) (by go_simp) (by go_simp)) (by rfl) (by omega) (by have:=HBD.out.size;simp;omega) ?_;intro u2 w2 ho2 hg2;obtain ⟨pu,cu,rfl,hyu⟩:=ho2.bytN rfl HX2.out HXR2.out;have hb2:=(HBD.out.alloc HBD.out.size _).grown hg2 (by have:=HBD.out.size;simp;omega) (fun k hk=>(HOD.out.lt k hk).1);have c2:=cell_below hb2 _ _ HC2.out)))
            all_goals
              go_wp2
              go_meet
              case rel =>
                have hs2:wq.heap.size≤w2.heap.size:=by have:=hg2.size;simp at this;omega
                exact ⟨ho3.mono hs2,(((HOZ.out.below (w':=wq.drew) (drew_below ⟨1,rfl⟩)).alloc _).kept_ne hg2 (fun k hk e=>by have:=(HQX.out k hk).1;have:=HUX.out k e;omega)).below hb3,hb2.trans (hb3.mono hb2.size),Nat.le_trans hs2 hb3.size⟩
          case rest =>
            rename World=>w5
            obtain ⟨ho5,hz5,hb5,hs5⟩:=hcut
            have hx5:(xs++[mk,0]++be 2 (8+(sn:Int)+(zs.length:Int))).length=xs.length+4:=by simp [be_len]
            have HX5:=hidden hx5
            have HO5:=hidden ho5
            have HO5D:Hid (Own w5.drew wq.heap.size 5 u5 (xs++[mk,0]++be 2 (8+(sn:Int)+(zs.length:Int)))):=hidden (ho5.below (drew_below ⟨1,rfl⟩))
            have HZ5:=hidden hz5
            have HB5:=hidden hb5
            have a0:=cell_below hb5 _ _ HC0.out
            have a1:=cell_below hb5 _ _ HC1.out
            have a2:=cell_below hb5 _ _ HC2.out
            have a3:=cell_below hb5 _ _ HC3.out
            have HL4:Hid (Byt (w5.drew.alloc (.cells #[.int .u8 yn,.int .u8 yp,.int .u8 (sn:Int),.int .u8 (t:Int)] 5)) (some ⟨w5.heap.size,0,none⟩) 4 4 [yn,yp,(sn:Int),(t:Int)]):=hidden (byt_lit5 w5.drew [yn,yp,(sn:Int),(t:Int)] 5 (by simp) (by intro z hz;simp at hz;omega))
            have SA:Hid ((w5.drew.alloc (.cells #[.int .u8 yn,.int .u8 yp,.int .u8 (sn:Int),.int .u8 (t:Int)] 5)).cell? ⟨g,j*4,none⟩=some (.int .i64 yn)∧(w5.drew.alloc (.cells #[.int .u8 yn,.int .u8 yp,.int .u8 (sn:Int),.int .u8 (t:Int)] 5)).cell? ⟨g,j*4+1,none⟩=some (.int .i64 yp)∧(w5.drew.alloc (.cells #[.int .u8 yn,.int .u8 yp,.int .u8 (sn:Int),.int .u8 (t:Int)] 5)).cell? ⟨g,j*4+2,none⟩=some (.slice sp sn sc)∧(w5.drew.alloc (.cells #[.int .u8 yn,.int .u8 yp,.int .u8 (sn:Int),.int .u8 (t:Int)] 5)).cell? ⟨g,j*4+3,none⟩=some (.slice tp t tc)):=hidden (by
              have hbx:=(hb5.trans (drew_below (B:=w.heap.size) (w:=w5) (w':=w5.drew) ⟨1,rfl⟩)).alloc hb5.size (.cells #[.int .u8 yn,.int .u8 yp,.int .u8 (sn:Int),.int .u8 (t:Int)] 5)
              exact ⟨cell_below hbx _ _ HC0.out,cell_below hbx _ _ HC1.out,cell_below hbx _ _ HC2.out,cell_below hbx _ _ HC3.out⟩)
            clear ho5 hz5 hb5 hx5 e2 e2a hwi1 hwi2 hwu2 HOD HBD
            go_wp2
            go_cut [5] from 101 to 129 (fun a w'=>Own w' wq.heap.size 5 a ((xs++[mk,0]++be 2 (8+(sn:Int)+(zs.length:Int)))++[yn,yp,(sn:Int),(t:Int)])∧Own w' wo.heap.size 5 (.slice q zs.length d) zs∧Below w.heap.size w w'∧wq.heap.size≤w'.heap.size)
            case first =>
              go_wp2_with fail
              go_region_held3 (fun w'=>w'.cell? ⟨g,j*4,none⟩=some (.int .i64 yn)∧w'.cell? ⟨g,j*4+1,none⟩=some (.int .i64 yp)∧w'.cell? ⟨g,j*4+2,none⟩=some (.slice sp sn sc)∧w'.cell? ⟨g,j*4+3,none⟩=some (.slice tp t tc)) (first | exact ⟨a0,a1,a2,a3⟩ | exact SA.out | exact hS6 | go_keep)
                ((refine step_append_byt _ (by rfl) _ _ 22 (by rfl) wq.heap.size 5 i0 (.int .u8 0) Tryz.underlying22 hi0 hz0 hz1 hz2 rfl _ _ (by rfl) (HO5D.out.alloc _) _ _ _ _ [yn,yp,(sn:Int),(t:Int)] (by rfl) HL4.out (by rfl) (by have:=HX5.out;omega) (by simp;omega) ?_;intro u6 w6 ho6 hg6;have hb6:=((HB5.out.trans (drew_below (B:=w.heap.size) (w:=w5) (w':=w5.drew) ⟨1,rfl⟩)).alloc HB5.out.size _).grown hg6 (by have:=HB5.out.size;simp;omega) (fun k hk=>by have:=(HO5.out.lt k hk).1;omega);have hS6:=And.intro (cell_below hb6 _ _ HC0.out) (And.intro (cell_below hb6 _ _ HC1.out) (And.intro (cell_below hb6 _ _ HC2.out) (cell_below hb6 _ _ HC3.out)))))
              all_goals
                go_wp2
                go_meet
                case rel =>
                  exact ⟨ho6,((HZ5.out.below (w':=w5.drew) (drew_below ⟨1,rfl⟩)).alloc _).kept_ne hg6 (fun k hk e=>by have:=(HQX.out k hk).2;have:=(HO5.out.lt k e).1;omega),hb6,by have:=hg6.size;simp at this;omega⟩
            case rest =>
              rename World=>w6
              obtain ⟨ho6,hz6,hb6,hs6⟩:=hcut
              have HO6:=hidden ho6
              have HZ6:=hidden hz6
              have HB6:=hidden hb6
              have HS6:=hidden (HSP.out.below hb6)
              have a2:=cell_below hb6 _ _ HC2.out
              have hx6:((xs++[mk,0]++be 2 (8+(sn:Int)+(zs.length:Int)))++[yn,yp,(sn:Int),(t:Int)]).length=xs.length+8:=by rw [List.length_append,HX5.out];rfl
              have HX6:=hidden hx6
              clear ho6 hz6 hb6 hx6 a0 a1 a3 HO5D HL4
              go_wp2_with (at_builtin;go_loud (refine wpList_append_byt _ rfl _ _ 22 rfl wq.heap.size 5 i0 (.int .u8 0) Tryz.underlying22 hi0 hz0 hz1 hz2 rfl _ _ rfl HO6.out _ _ _ _ _ rfl HS6.out rfl ?c1 hs6 ?_))
              case c1=>have:=HX6.out;omega
              intro v7 w7 ho7 hg7
              have hz7:=HZ6.out.kept_ne hg7 (fun k hk e=>by have:=(HQX.out k hk).2;have:=(HO6.out.lt k e).1;omega)
              have HB7:=hidden (HB6.out.grown hg7 HB6.out.size (fun k hk=>by have:=(HO6.out.lt k hk).1;omega))
              obtain ⟨q',d',eq',hyz⟩:=hz7.bytN rfl rfl HZR.out
              simp at eq'
              obtain ⟨rfl,rfl⟩:=eq'
              have HYZ:=hidden hyz
              have HO7:=hidden ho7
              have hs7:wq.heap.size≤w7.heap.size:=Nat.le_trans hs6 hg7.size
              clear ho7 hg7 hz7 hyz
              go_wp2_with (at_builtin;go_loud (refine wpList_append_byt _ rfl _ _ 22 rfl wq.heap.size 5 i0 (.int .u8 0) Tryz.underlying22 hi0 hz0 hz1 hz2 rfl _ _ rfl HO7.out _ _ _ _ _ rfl HYZ.out rfl ?c1 hs7 ?_))
              case c1=>have:=HSL.out;have:=HZB.out;simp [be_len];omega
              intro v8 w8 ho8 hg8
              have HB8:=hidden (HB7.out.grown hg8 HB7.out.size (fun k hk=>by have:=(HO7.out.lt k hk).1;omega))
              have he:=secE_inP mk yn yp s zs ts sn t HZ2.out HSL.out HTSL.out (by omega) (by omega) (by omega) (by omega) xs
              replace ho8:Own w8 wq.heap.size 5 v8 (xs++secE mk (inP ⟨yn,yp,s,ts⟩)):=by
                rw [←he]
                simpa using ho8
              have HO8:=hidden ho8
              have HE:=hidden he
              clear ho8 hg8 he
              go_wp2_with fail
              go_roundw
              case rel =>
                refine ⟨j+1,by omega,by go_num,_,?_,?_,?_,HO8.out.mono (by have:=HBW.out.size;omega),HB8.out⟩
                · rw [List.append_assoc];exact (congrArg (xs++·) HST2.out).symm.trans HXS.out
                · rw [←HE.out,List.length_append,List.length_append,HX6.out,HSL.out];have:=HZB.out;omega
                · rw [←HE.out]
                  exact rng_append (rng_append (rng_append (rng_append HXR2.out (be_rng _ _)) (by intro z hz;simp at hz;omega)) HSP.out.rng) HZR.out
              case measure=>simp [intOf];omega
      replace htt:t<tn:=by omega
      have htt':(t:Int)<tn:=by omega
      obtain ⟨ga,rfl,ha,-⟩:=(HTS.out.below HBW.out).cell t (by rw [HTSL.out];exact htt)
      obtain ⟨z,hz⟩ : ∃ z,ts[t]'(by rw [HTSL.out];exact htt)=z:=⟨_,rfl⟩
      have hzo:OkT z:=HTO.out _ (by rw [←hz];exact List.getElem_mem _)
      have hstp:encTs (ts.drop t)=encT (if t+1<tn then 3 else 0) z++encTs (ts.drop (t+1)):=by
        rw [encTs_step ts t (by rw [HTSL.out];exact htt) z hz,HTSL.out,encT_sec]
      rw [hz] at ha
      obtain ⟨zt,zi,zk⟩:=z
      have a0:=ha 0 _ rfl
      have a1:=ha 1 _ rfl
      have a2:=ha 2 _ rfl
      simp only [KTr,Nat.add_zero] at a0 a1 a2
      have ot:=hzo.t
      have oi:=hzo.i
      have ok:=hzo.k
      simp only at ot oi ok
      obtain ⟨mk,hmk,hmd⟩ : ∃ mk:Int,(if t+1<tn then (3:Int) else 0)=mk∧((((t:Int) == (tn:Int) - 1)=true∧mk=0)∨(((t:Int) == (tn:Int) - 1)=false∧mk=3)):=by
        by_cases hh:t+1<tn
        · exact ⟨3,by rw [if_pos hh],Or.inr ⟨by simp;omega,rfl⟩⟩
        · exact ⟨0,by rw [if_neg hh],Or.inl ⟨by simp;omega,rfl⟩⟩
      obtain ⟨LT,hLT,hld⟩ : ∃ LT:Int,LT=lenT ⟨zt,zi,zk⟩∧((zk=0∧(zk != 0)=false∧LT=8)∨(zk≠0∧(zk != 0)=true∧LT=12)):=by
        by_cases hh:zk=0
        · exact ⟨8,by simp [lenT,hh],Or.inl ⟨hh,by simp [hh],rfl⟩⟩
        · exact ⟨12,by simp [lenT,hh],Or.inr ⟨hh,by simp [hh],rfl⟩⟩
      rw [hmk] at hstp
      have hmb:0≤mk∧mk≤255:=by omega
      have hlb:0≤LT∧LT≤12:=by omega
      have het:=encT_tail mk ⟨zt,zi,zk⟩ hzo LT hLT
      simp only at het
      have hel:=encT_len mk ⟨zt,zi,zk⟩
      rw [←hLT] at hel
      have hnx:(zs++encT mk ⟨zt,zi,zk⟩)++encTs (ts.drop (t+1))=encTs ts:=by rw [List.append_assoc,←hstp];exact hzs
      have hnl:(zs++encT mk ⟨zt,zi,zk⟩).length≤(t+1)*12:=by rw [List.length_append];omega
      have hnr : ∀ y∈zs++encT mk ⟨zt,zi,zk⟩,0≤y∧y≤255:=rng_append hzr (by rw [encT_sec];exact secE_rng _ _ hmb (inT_rng _))
      have HNX:=hidden hnx
      have HNL:=hidden hnl
      have HNR:=hidden hnr
      have HET:=hidden het
      have hwz:IntKind.u8.wrap zt=zt:=by rw [IntKind.wrap_u8];omega
      have hwi:IntKind.u64.wrap zi=zi:=wraps_u64 _ (by omega) (by omega)
      have hwk:IntKind.u64.wrap zk=zk:=wraps_u64 _ (by omega) (by omega)
      have hal:Below wq.heap.size wq (wq.alloc (.cells #[.int .i64 zt,.int .i64 zi,.int .i64 zk] 118)):=(Below.refl _ _).alloc (Nat.le_refl _) _
      obtain ⟨W1,hW1⟩ : ∃ W1,wq.alloc (.cells #[.int .i64 zt,.int .i64 zi,.int .i64 zk] 118)=W1:=⟨_,rfl⟩
      have y0:W1.cell? ⟨wq.heap.size,0,none⟩=some (.int .i64 zt):=by subst hW1;exact World.cell?_alloc_at _ _ _ _ rfl
      have y1:W1.cell? ⟨wq.heap.size,1,none⟩=some (.int .i64 zi):=by subst hW1;exact World.cell?_alloc_at _ _ _ _ rfl
      have y2:W1.cell? ⟨wq.heap.size,2,none⟩=some (.int .i64 zk):=by subst hW1;exact World.cell?_alloc_at _ _ _ _ rfl
      have hs1:W1.heap.size=wq.heap.size+1:=by subst hW1;simp
      rw [hW1] at hal
      have f3:W1.cell? ⟨g,j*4+3,none⟩=some (.slice (some ⟨ga,0,none⟩) tn tc):=cell_below hal _ _ e3
      have HO1:=hidden (ho.below hal)
      have HB1:=hidden (hbl.trans (hal.mono hbl.size))
      have HZO:=hidden ho
      have HX2:=hidden (show (zs++[mk,0]).length=zs.length+2 by simp)
      have HXR2:=hidden (rng_append hzr (show ∀ z∈[mk,0],0≤z∧z≤255 by intro z hz;simp at hz;omega))
      have hz9:zs.length≤300:=by omega
      clear ha hz hzo hstp hmk hLT het hel hnx hnl hnr hal hzs ho hbl hzr HZS HZR
      rcases hmd with ⟨hq,rfl⟩ | ⟨hq,rfl⟩<;>rcases hld with ⟨hk0,hkb,rfl⟩ | ⟨hk0,hkb,rfl⟩
      all_goals
        have HK0:=hidden hk0
        try (have hk9:zk=0:=hk0;clear hk0 hk9)
        go_wp2_with (at_builtin;go_loud (refine wpList_append_byt _ rfl _ _ 22 rfl wo.heap.size 5 i0 (.int .u8 0) Tryz.underlying22 hi0 hz0 hz1 hz2 rfl _ _ rfl (HO1.out.alloc _) _ _ _ _ [_,0] rfl (two_byt hmb (by omega) (by go_simp) (by go_simp)) rfl ?c1 ?c2 ?_))
        case c1=>omega
        case c2=>simp;omega
        intro u2 w2 ho2 hg2
        obtain ⟨pu,cu,rfl,hyu⟩:=ho2.bytN rfl HX2.out HXR2.out
        have hb2:=(HB1.out.alloc HB1.out.size (.cells #[.int .u8 _,.int .u8 0] 5)).grown hg2 (by have:=HB1.out.size;simp;omega) (fun k hk=>(HZO.out.lt k hk).1)
        have hne2 : ∀ k,u7.ownBlock=some k→k≠wq.heap.size:=fun k hk e=>by have:=(HZO.out.lt k hk).2;omega
        have x0:=hg2.cell (cell_below ((Below.refl _ W1).alloc (Nat.le_refl _) _) _ _ y0) (fun e=>hne2 _ e.symm rfl)
        have x1:=hg2.cell (cell_below ((Below.refl _ W1).alloc (Nat.le_refl _) _) _ _ y1) (fun e=>hne2 _ e.symm rfl)
        have x2:=hg2.cell (cell_below ((Below.refl _ W1).alloc (Nat.le_refl _) _) _ _ y2) (fun e=>hne2 _ e.symm rfl)
        have hs2:wq.heap.size+2≤w2.heap.size:=by have:=hg2.size;simp at this;omega
        have HB2:=hidden hb2
        have HYU:=hidden hyu
        clear hg2 ho2 hne2 hb2 hyu
        go_wp2_with fail
        go_at_call 20
        (with_reducible refine (rput_r pu (zs.length+2) cu _ w2 HYU.out (by omega) _ (by omega) _ rfl (zs.length+4) (by omega)).mono ?_)
        rintro e w3 ⟨q3,d3,rfl,ho3,hy3,hb3⟩
        have HN4:Hid (∀ k,(Value.slice q3 (zs.length+4) d3).ownBlock=some k→k≠wq.heap.size):=hidden (fun k hk e=>by have:=(ho3.lt k hk).1;omega)
        have hHB3:=HB2.out.trans (hb3.mono HB2.out.size)
        have HB3D:Hid (Below wo.heap.size wo w3.drew):=hidden (hHB3.trans (drew_below ⟨1,rfl⟩))
        have HO3D:=hidden (ho3.below (w':=w3.drew) (drew_below ⟨1,rfl⟩))
        have hl3:=hy3.len
        have HL3:=hidden hl3
        have HR3:=hidden hy3.rng
        have v0:=cell_below hb3 _ _ x0
        have v1:=cell_below hb3 _ _ x1
        have v2:=cell_below hb3 _ _ x2
        have v1a:(w3.alloc (.cells #[.int .u8 zt,.int .u8 0] 5)).cell? ⟨wq.heap.size,1,none⟩=some (.int .i64 zi):=cell_below ((Below.refl _ w3).alloc (Nat.le_refl _) _) _ _ v1
        have V0:=hidden v0
        have V1:=hidden v1
        have V2:=hidden v2
        have hs3:w2.heap.size≤w3.heap.size:=hb3.size
        have HR3x:=hidden (rng_append hy3.rng (show ∀ y∈[zt,0],0≤y∧y≤255 by intro y hy;simp at hy;omega))
        clear ho3 hy3 hb3 hHB3 HYU x0 x1 x2 hl3
        go_wp2_with fail
        have SZ:Hid ((w3.drew.alloc (.cells #[.int .u8 zt,.int .u8 0] 5)).cell? ⟨wq.heap.size,0,none⟩=some (.int .i64 zt)∧(w3.drew.alloc (.cells #[.int .u8 zt,.int .u8 0] 5)).cell? ⟨wq.heap.size,1,none⟩=some (.int .i64 zi)):=hidden ⟨cell_below ((Below.refl _ w3).alloc (Nat.le_refl _) _) _ _ V0.out,cell_below ((Below.refl _ w3).alloc (Nat.le_refl _) _) _ _ V1.out⟩
        go_region_held3 (fun w'=>w'.cell? ⟨wq.heap.size,0,none⟩=some (.int .i64 zt)∧w'.cell? ⟨wq.heap.size,1,none⟩=some (.int .i64 zi)) (first | exact ⟨v0,v1⟩ | exact SZ.out | exact hS4 | exact ⟨cell_below hb5 _ _ hS4.1,cell_below hb5 _ _ hS4.2⟩ | go_keep)
          ((first
          | (go_at_call 20;(with_reducible refine (rput_r pv (zs.length+4+2) cv _ _ hyv (by omega) zi (by omega) _ rfl (zs.length+8) (by omega)).mono ?_);rintro e w5 ⟨q5,d5,rfl,ho5,hy5,hb5⟩)
          | (refine step_append_byt _ (by rfl) _ _ 22 (by rfl) w2.heap.size 5 i0 (.int .u8 0) Tryz.underlying22 hi0 hz0 hz1 hz2 rfl _ _ (by rfl) (HO3D.out.alloc _) _ _ _ _ [zt,0] (by rfl) (two_byt (by omega) (by omega) (by go_simp) (by go_simp)) (by rfl) (by have:=HL3.out;omega) (by simp;omega) ?_;intro u4 w4 ho4 hg4;obtain ⟨pv,cv,rfl,hyv⟩:=ho4.bytN (N:=zs.length+4+2) rfl (by rw [List.length_append,HL3.out];rfl) HR3x.out;have hb4:=(HB3D.out.alloc HB3D.out.size (.cells #[.int .u8 zt,.int .u8 0] 5)).grown hg4 (by have:=HB3D.out.size;simp;omega) (fun k hk=>by have:=(HO3D.out.lt k hk).1;omega);have hS4:=And.intro (hg4.cell SZ.out.1 (fun e=>HN4.out _ e.symm rfl)) (hg4.cell SZ.out.2 (fun e=>HN4.out _ e.symm rfl));have v2:=hg4.cell (cell_below ((Below.refl _ w3.drew).alloc (Nat.le_refl _) _) _ _ V2.out) (fun e=>HN4.out _ e.symm rfl))))
        all_goals
          have HB5:=hidden (hb4.trans (hb5.mono hb4.size))
          have hs5:wo.heap.size≤w4.heap.size:=hb4.size
          have HO5:=hidden (ho5.mono hs5)
          have u2f:=cell_below hb5 _ _ v2
          have HY5:=hidden hy5
          clear hb5 ho5 hy5 hb4 ho4 hg4 hyv v0 v1 v2 HO3D hS4 SZ
          first
          | (have hkz:zk=0:=HK0.out
             have he:=HET.out
             rw [if_neg (by simpa using hkz),List.append_nil] at he
             have HE:=hidden he
             clear he hkz
             go_wp2_with fail
             go_roundw
             case rel=>exact ⟨t+1,by omega,by go_num,_,HNX.out,HNL.out,HNR.out,by rw [HE.out];simpa using HO5.out,HB5.out⟩
             case measure=>simp [intOf];omega)
          | (have hkz:zk≠0:=HK0.out
             have he:=HET.out
             rw [if_pos hkz] at he
             have HE:=hidden he
             have u2d:w5.drew.cell? ⟨wq.heap.size,2,none⟩=some (.int .i64 zk):=u2f
             have HY5D:=hidden (HY5.out.below (w':=w5.drew) (drew_below ⟨1,rfl⟩))
             have HB5D:Hid (Below wo.heap.size wo w5.drew):=hidden (HB5.out.trans (drew_below ⟨1,rfl⟩))
             clear he
             go_wp2_with fail
             go_region_held3 (fun w'=>w'.cell? ⟨wq.heap.size,2,none⟩=some (.int .i64 zk)) (first | exact u2f | exact u2d | exact cell_below hb7 _ _ u2d | exact cell_below hb8 _ _ (cell_below hb7 _ _ u2d) | go_keep)
               ((first
               | (go_at_call 20;(with_reducible refine (rput_r q5 (zs.length+8) d5 _ _ HY5D.out (by omega) 32782 (by omega) _ rfl (zs.length+10) (by omega)).mono ?_);rintro e w7 ⟨q7,d7,rfl,ho7,hy7,hb7⟩)
               | (go_at_call 20;(with_reducible refine (rput_r q7 (zs.length+10) d7 _ _ hy7 (by omega) zk (by omega) _ rfl (zs.length+12) (by omega)).mono ?_);rintro e w8 ⟨q8,d8,rfl,ho8,hy8,hb8⟩)))
             all_goals
               have hb7w:=HB5D.out.trans (hb7.mono HB5D.out.size)
               have HB8:=hidden (hb7w.trans (hb8.mono hb7w.size))
               have HO8:=hidden (ho8.mono (show wo.heap.size≤w7.heap.size from hb7w.size))
               clear hb7 hb8 ho7 ho8 hy7 hy8 hb7w u2f u2d
               go_wp2_with fail
               go_roundw
               case rel=>exact ⟨t+1,by omega,by go_num,_,HNX.out,HNL.out,HNR.out,by rw [HE.out];simpa using HO8.out,HB8.out⟩
               case measure=>simp [intOf];omega)
end Go.Proofs.YtgpigjoonhghhaaGreat
