/-
  The selector that a list of choices makes: it is good, and of the family that is asked for.
  Rows of selectors in memory; the lists of selectors that a list of choices makes.
  What package selector writes of an address and of a selector.
  What package selector's checkCount, checkEach and Build return.
  Which slices are the same: slices.Equal and slices.EqualFunc at the types that package payload compares, and the document's own Same of proposals and of selectors: each says yes just where the lists read alike.
  The proposals that a list of choices makes: they may be written, where their protocol is one.
-/
import Derived.Test.YtgpigjoonhghhaaGreatQZ4
import Derived.Test.YtgpigjoonhghhaaGreatQZ0
import Derived.Test.YtgpigjoonhghhaaGreatQZ2
import Derived.Test.YtgpigjoonhghhaaGreatQZ9
import Derived.Test.YtgpigjoonhghhaaGreatQZ1
import Derived.Test.YtgpigjoonhghhaaGreatQZ3
import Derived.Deep.RegionHeld3
import Derived.Deep.QuietTactic
import Derived.BigQuiet
namespace Go.Proofs.YtgpigjoonhghhaaGreat
open Go.RowKit
set_option linter.unusedVariables false
structure DrawS (f:Int) (s:Sl):Prop where
  good:GoodS s
  fam:s.lo.f=f
structure DSl (W w wx:World) (k g:Nat) (s:Sl):Prop where
  cod:Cod W wx k
  gr:w.grownBy wx (some k)
  ge:w.heap.size<g
  R:SlIn wx w.heap.size zeroS
  S:SlIn wx g s
section
variable {W w wx wy:World} {k g:Nat} {s:Sl}
theorem DSl.grown (h:DSl W w wx k g s) (hk:k<w.heap.size) (hc:Cod W wy k) (hg:wx.grownBy wy (some k)):DSl W w wy k g s :=
  ⟨hc,grown_trans h.gr hg,h.ge,h.R.grown hg (by simp;omega),h.S.grown hg (by have:=h.ge;simp;omega)⟩
theorem DSl.alloc (h:DSl W w wx k g s) (o:Obj):DSl W w (wx.alloc o) k g s:=⟨h.cod.alloc o,grown_alloc_new h.gr o,h.ge,h.R.alloc o,h.S.alloc o⟩
theorem DSl.setA (h:DSl W w wx k g s) (hb:W.heap.size≤w.heap.size) (hk:k<w.heap.size) (z:Int):DSl W w (wx.setCell ⟨g,1,none⟩ (.int .i64 z)) k g { s with a:=z }:=by
  have:=h.ge
  exact ⟨h.cod.set _ _ _ (by omega) (by omega),grown_set_new h.gr _ _ _ (by omega),h.ge,h.R.set_ne _ _ _ (by omega),h.S.setA z⟩
theorem DSl.setB (h:DSl W w wx k g s) (hb:W.heap.size≤w.heap.size) (hk:k<w.heap.size) (z:Int):DSl W w (wx.setCell ⟨g,2,none⟩ (.int .i64 z)) k g { s with b:=z }:=by
  have:=h.ge
  exact ⟨h.cod.set _ _ _ (by omega) (by omega),grown_set_new h.gr _ _ _ (by omega),h.ge,h.R.set_ne _ _ _ (by omega),h.S.setB z⟩
theorem DSl.setLo (h:DSl W w wx k g s) (hb:W.heap.size≤w.heap.size) (hk:k<w.heap.size) (z:Ad):DSl W w (((wx.setCell ⟨g,3,none⟩ (.int .i64 z.f)).setCell ⟨g,4,none⟩ (.int .u64 z.h)).setCell ⟨g,5,none⟩ (.int .u64 z.l)) k g { s with lo:=z }:=by
  have:=h.ge
  exact ⟨((h.cod.set _ _ _ (by omega) (by omega)).set _ _ _ (by omega) (by omega)).set _ _ _ (by omega) (by omega),grown_set_new (grown_set_new (grown_set_new h.gr _ _ _ (by omega)) _ _ _ (by omega)) _ _ _ (by omega),h.ge,((h.R.set_ne _ _ _ (by omega)).set_ne _ _ _ (by omega)).set_ne _ _ _ (by omega),h.S.setLo z⟩
theorem DSl.setHi (h:DSl W w wx k g s) (hb:W.heap.size≤w.heap.size) (hk:k<w.heap.size) (z:Ad):DSl W w (((wx.setCell ⟨g,6,none⟩ (.int .i64 z.f)).setCell ⟨g,7,none⟩ (.int .u64 z.h)).setCell ⟨g,8,none⟩ (.int .u64 z.l)) k g { s with hi:=z }:=by
  have:=h.ge
  exact ⟨((h.cod.set _ _ _ (by omega) (by omega)).set _ _ _ (by omega) (by omega)).set _ _ _ (by omega) (by omega),grown_set_new (grown_set_new (grown_set_new h.gr _ _ _ (by omega)) _ _ _ (by omega)) _ _ _ (by omega),h.ge,((h.R.set_ne _ _ _ (by omega)).set_ne _ _ _ (by omega)).set_ne _ _ _ (by omega),h.S.setHi z⟩
theorem DSl.ret (h:DSl W w wx k g s) (hb:W.heap.size≤w.heap.size) (hk:k<w.heap.size):SlIn (((((((((wx.setCell ⟨w.heap.size,0,none⟩ (.int .i64 s.p)).setCell ⟨w.heap.size,1,none⟩ (.int .i64 s.a)).setCell ⟨w.heap.size,2,none⟩ (.int .i64 s.b)).setCell ⟨w.heap.size,3,none⟩ (.int .i64 s.lo.f)).setCell ⟨w.heap.size,4,none⟩ (.int .u64 s.lo.h)).setCell ⟨w.heap.size,5,none⟩ (.int .u64 s.lo.l)).setCell ⟨w.heap.size,6,none⟩ (.int .i64 s.hi.f)).setCell ⟨w.heap.size,7,none⟩ (.int .u64 s.hi.h)).setCell ⟨w.heap.size,8,none⟩ (.int .u64 s.hi.l)) w.heap.size s∧Cod W (((((((((wx.setCell ⟨w.heap.size,0,none⟩ (.int .i64 s.p)).setCell ⟨w.heap.size,1,none⟩ (.int .i64 s.a)).setCell ⟨w.heap.size,2,none⟩ (.int .i64 s.b)).setCell ⟨w.heap.size,3,none⟩ (.int .i64 s.lo.f)).setCell ⟨w.heap.size,4,none⟩ (.int .u64 s.lo.h)).setCell ⟨w.heap.size,5,none⟩ (.int .u64 s.lo.l)).setCell ⟨w.heap.size,6,none⟩ (.int .i64 s.hi.f)).setCell ⟨w.heap.size,7,none⟩ (.int .u64 s.hi.h)).setCell ⟨w.heap.size,8,none⟩ (.int .u64 s.hi.l)) k∧w.grownBy (((((((((wx.setCell ⟨w.heap.size,0,none⟩ (.int .i64 s.p)).setCell ⟨w.heap.size,1,none⟩ (.int .i64 s.a)).setCell ⟨w.heap.size,2,none⟩ (.int .i64 s.b)).setCell ⟨w.heap.size,3,none⟩ (.int .i64 s.lo.f)).setCell ⟨w.heap.size,4,none⟩ (.int .u64 s.lo.h)).setCell ⟨w.heap.size,5,none⟩ (.int .u64 s.lo.l)).setCell ⟨w.heap.size,6,none⟩ (.int .i64 s.hi.f)).setCell ⟨w.heap.size,7,none⟩ (.int .u64 s.hi.h)).setCell ⟨w.heap.size,8,none⟩ (.int .u64 s.hi.l)) (some k) :=
  ⟨h.R.setAll s,(((((((((h.cod.set _ _ _ (by omega) (by omega)).set _ _ _ (by omega) (by omega)).set _ _ _ (by omega) (by omega)).set _ _ _ (by omega) (by omega)).set _ _ _ (by omega) (by omega)).set _ _ _ (by omega) (by omega)).set _ _ _ (by omega) (by omega)).set _ _ _ (by omega) (by omega)).set _ _ _ (by omega) (by omega)),(grown_set_new (grown_set_new (grown_set_new (grown_set_new (grown_set_new (grown_set_new (grown_set_new (grown_set_new (grown_set_new h.gr _ _ _ (by omega)) _ _ _ (by omega)) _ _ _ (by omega)) _ _ _ (by omega)) _ _ _ (by omega)) _ _ _ (by omega)) _ _ _ (by omega)) _ _ _ (by omega)) _ _ _ (by omega))⟩
end
theorem pr5 (j:Nat) (hj:j<5) : ∃ t:Int,(#[Value.int .i64 0,.int .i64 0,.int .i64 6,.int .i64 17,.int .i64 1]:Array Value)[j]?=some (.int .i64 t)∧([Value.int .i64 0,.int .i64 0,.int .i64 6,.int .i64 17,.int .i64 1]:List Value)[j]?=some (.int .i64 t)∧0≤t∧t≤255:=by
  have:j=0∨j=1∨j=2∨j=3∨j=4:=by omega
  rcases this with rfl | rfl | rfl | rfl | rfl
  all_goals exact ⟨_,rfl,rfl,by omega,by omega⟩
theorem po5 (j:Nat) (hj:j<5) : ∃ t:Int,(#[Value.int .i64 0,.int .i64 80,.int .i64 443,.int .i64 65530,.int .i64 1]:Array Value)[j]?=some (.int .i64 t)∧([Value.int .i64 0,.int .i64 80,.int .i64 443,.int .i64 65530,.int .i64 1]:List Value)[j]?=some (.int .i64 t)∧0≤t∧t≤65530:=by
  have:j=0∨j=1∨j=2∨j=3∨j=4:=by omega
  rcases this with rfl | rfl | rfl | rfl | rfl
  all_goals exact ⟨_,rfl,rfl,by omega,by omega⟩
theorem RangeA.sel {f:Int} {lo hi:Ad} (h:RangeA f lo hi) (p a b:Int) (hp:0≤p∧p≤255) (hq:(a=65535∧b=0)∨(0≤a∧a≤b∧b≤65535)):DrawS f ⟨p,a,b,lo,hi⟩ :=
  ⟨⟨h.dlo.fit,h.dhi.fit,h.dlo.ok,h.dhi.ok,h.dlo.fam.trans h.dhi.fam.symm,h.le,hp,hq⟩,h.dlo.fam⟩
def MadeS (W w:World) (k:Nat) (f:Int) (e:Ending) (w':World):Prop:=∃ s:Sl,e=.returned (.agg #[.int .i64 s.p,.int .i64 s.a,.int .i64 s.b,.int .i64 s.lo.f,.int .u64 s.lo.h,.int .u64 s.lo.l,.int .i64 s.hi.f,.int .u64 s.hi.h,.int .u64 s.hi.l])∧DrawS f s∧Cod W w' k∧w.grownBy w' (some k)
set_option maxHeartbeats 3200000 in
set_option maxRecDepth 100000 in
theorem sel_any (W w:World) (k:Nat) (h:Cod W w k) (f:Int) (hf:f=4∨f=6) :
    Calls Tryz.prog 56 #[.pointer (some ⟨k,0,none⟩),.int .i64 f] w (MadeS W w k f):=by
  have hk:=h.lt
  have hbase:=h.bel.size
  have HC0:=hidden ((h.alloc (.cells #[.int .i64 0,.int .i64 0,.int .i64 0,.int .i64 0,.int .u64 0,.int .u64 0,.int .i64 0,.int .u64 0,.int .u64 0] 122)).alloc (.cells ([Value.int .i64 0,.int .i64 0,.int .i64 6,.int .i64 17,.int .i64 1]:List Value).toArray 3))
  have HR0:=hidden ((SlIn.new w zeroS 122).alloc (.cells ([Value.int .i64 0,.int .i64 0,.int .i64 6,.int .i64 17,.int .i64 1]:List Value).toArray 3))
  have HSP:=hidden (fun w' (hc:Cod W w' k)=>span_any W w' k hc f hf)
  clear h
  go_enter Tryz.func56,Tryz.ntmps56
  go_upto_region 4 with (first
    | (go_at_call_of 10 (Value.int IntKind.i64 5);(with_reducible refine (next_any W _ k HC0.out _ ?_).mono ?_);omega;rintro e w1 ⟨j,rfl,j0,j1,hc,hg⟩;obtain ⟨j,rfl⟩:=Int.eq_ofNat_of_zero_le j0;obtain ⟨p,hta,htl,p0,p1⟩:=pr5 j (by omega);have hcI:w1.cell? ⟨w.heap.size+1,j,none⟩=some (.int .i64 p):=(by have:=row_cell _ w1 k _ _ j _ htl (by simp;omega) hg;simpa using this);have H1:=hidden (show DSl W w (w1.alloc (.cells #[.int .i64 p,.int .i64 0,.int .i64 65535,.int .i64 0,.int .u64 0,.int .u64 0,.int .i64 0,.int .u64 0,.int .u64 0] 122)) k w1.heap.size ⟨p,0,65535,zeroA,zeroA⟩ from ⟨hc.alloc _,grown_alloc_new (grown_trans (grown_alloc_new (World.grownBy_alloc w _ _) _) hg) _,by have:=hg.size;simp at this;omega,(HR0.out.grown hg (by simp;omega)).alloc _,SlIn.new w1 ⟨p,0,65535,zeroA,zeroA⟩ _⟩);clear hc hg HC0 HR0)
    | (go_at_call 73;(with_reducible refine (HSP.out _ H1.out.cod).mono ?_);rintro e w2 ⟨lo,hi,rfl,hra,hc,hg⟩;have HRA:=hidden hra;have H2:=hidden (H1.out.grown hk hc hg);obtain ⟨s0,s1,s2,s3,s4,s5,s6,s7,s8,sf⟩:=H2.out.S;have H3:=hidden ((H2.out.setLo hbase hk lo).setHi hbase hk hi);clear hra hc hg H1 H2)
    | (go_at_call_of 10 (Value.int IntKind.i64 5);(with_reducible refine (next_any W _ k H3.out.cod _ ?_).mono ?_);omega;rintro e w3 ⟨r,rfl,r0,r1,hc,hg⟩;have H4:=hidden (H3.out.grown hk hc hg);clear hc hg H3)
    | fail)
  generalize w1.heap.size=g at *
  have hg0:=H4.out.ge
  have hr:r=0∨(r=1∨r=2)∨((r == 0)=false∧(r == 1)=false∧(r == 2)=false):=by simp;omega
  rcases hr with rfl | hr | ⟨k1,k2,k3⟩
  · obtain ⟨s0,s1,s2,s3,s4,s5,s6,s7,s8,sf⟩:=H4.out.S
    obtain ⟨q0,q1,q2,q3,q4,q5,q6,q7,q8,qf⟩:=H4.out.R
    have H5:=hidden ((H4.out.setA hbase hk 65535).setB hbase hk 0)
    have n1:¬ w.heap.size=g:=by omega
    have n2:¬ g=w.heap.size:=by omega
    go_wp2
    obtain ⟨z1,z2,z3⟩:=H5.out.ret hbase hk
    refine ret_sl (g:=w.heap.size) (s:=⟨p,65535,0,lo,hi⟩) rfl rfl rfl z1 ?_
    exact ⟨_,rfl,HRA.out.sel p 65535 0 ⟨p0,p1⟩ (Or.inl ⟨rfl,rfl⟩),z2,z3⟩
  · rcases hr with rfl | rfl
    all_goals
      have HC5:=hidden (H4.out.cod.alloc (.cells ([Value.int .i64 0,.int .i64 80,.int .i64 443,.int .i64 65530,.int .i64 1]:List Value).toArray 3))
      go_wp2_with (first
        | (go_at_call_of 10 (Value.int IntKind.i64 5);(with_reducible refine (next_any W _ k HC5.out _ ?_).mono ?_);omega;rintro e w4 ⟨j,rfl,j0,j1,hc,hg⟩;obtain ⟨j,rfl⟩:=Int.eq_ofNat_of_zero_le j0;obtain ⟨t,hta,htl,t0,t1⟩:=po5 j (by omega);have hcI:=row_cell _ w4 k _ _ j _ htl H4.out.cod.lt hg;have H5:=hidden ((H4.out.alloc _).grown hk hc hg);clear hc hg HC5)
        | (go_at_call_of 10 (Value.int IntKind.i64 6);(with_reducible refine (next_any W _ k H5.out.cod _ ?_).mono ?_);omega;rintro e w5 ⟨v,rfl,v0,v1,hc,hg⟩;have H6:=hidden (H5.out.grown hk hc hg);obtain ⟨s0,s1,s2,s3,s4,s5,s6,s7,s8,sf⟩:=H6.out.S;obtain ⟨q0,q1,q2,q3,q4,q5,q6,q7,q8,qf⟩:=H6.out.R;have n1:¬ w.heap.size=g:=(by omega);have n2:¬ g=w.heap.size:=(by omega);clear hc hg H5 hcI)
        | fail)
      all_goals first
        | (have hq:t+v<65535:=by omega
           obtain ⟨z1,z2,z3⟩:=((H6.out.setA hbase hk t).setB hbase hk (t+v)).ret hbase hk
           refine ret_sl (g:=w.heap.size) (s:=⟨p,t,t+v,lo,hi⟩) rfl rfl rfl z1 ?_
           exact ⟨_,rfl,HRA.out.sel p t (t+v) ⟨p0,p1⟩ (Or.inr ⟨by omega,by omega,by omega⟩),z2,z3⟩)
        | (have hq:65535≤t+v:=by omega
           obtain ⟨z1,z2,z3⟩:=((H6.out.setA hbase hk t).setB hbase hk (65535)).ret hbase hk
           refine ret_sl (g:=w.heap.size) (s:=⟨p,t,65535,lo,hi⟩) rfl rfl rfl z1 ?_
           exact ⟨_,rfl,HRA.out.sel p t (65535) ⟨p0,p1⟩ (Or.inr ⟨by omega,by omega,by omega⟩),z2,z3⟩)
        | fail
  · obtain ⟨s0,s1,s2,s3,s4,s5,s6,s7,s8,sf⟩:=H4.out.S
    obtain ⟨q0,q1,q2,q3,q4,q5,q6,q7,q8,qf⟩:=H4.out.R
    have n1:¬ w.heap.size=g:=by omega
    have n2:¬ g=w.heap.size:=by omega
    go_wp2
    obtain ⟨z1,z2,z3⟩:=H4.out.ret hbase hk
    refine ret_sl (g:=w.heap.size) (s:=⟨p,0,65535,lo,hi⟩) rfl rfl rfl z1 ?_
    exact ⟨_,rfl,HRA.out.sel p 0 65535 ⟨p0,p1⟩ (Or.inr ⟨by omega,by omega,by omega⟩),z2,z3⟩
end Go.Proofs.YtgpigjoonhghhaaGreat

namespace Go.Proofs.YtgpigjoonhghhaaGreat
open Go.RowKit
set_option linter.unusedVariables false
def KSl:KindR Sl where
  e:=122
  k:=9
  cs x:=[.int .i64 x.p,.int .i64 x.a,.int .i64 x.b,.int .i64 x.lo.f,.int .u64 x.lo.h,.int .u64 x.lo.l,.int .i64 x.hi.f,.int .u64 x.hi.h,.int .u64 x.hi.l]
  len _:=rfl
  one x u hu:=by
    simp at hu
    rcases hu with rfl | rfl | rfl | rfl | rfl | rfl | rfl | rfl | rfl<;>rfl
  pos:=by decide
def NSl:NestR Sl where
  ts:=[]
  ok _ _ x:=FitS x
  keep h _ _:=h
  mono h _:=h
def DSlr:ReadN Sl where
  ok _ x:=FitS x
  keep h _:=h
theorem Tryz.infoSl:(Tryz.prog.info? 122).map (fun i=>(i.zero,i.size,i.bytes))=some (some (.agg #[.int .i64 0,.int .i64 0,.int .i64 0,.int .i64 0,.int .u64 0,.int .u64 0,.int .i64 0,.int .u64 0,.int .u64 0]),9,72):=by kernel_rfl
theorem knownSl:KnownR Tryz.prog KSl 47 72:=by
  refine ⟨Tryz.underlying47,?_⟩
  obtain ⟨i0,hi,hz0,hz1,hz2⟩:=info_parts Tryz.infoSl
  exact ⟨i0,_,hi,hz0,hz1,hz2,rfl⟩
theorem srcSl (w:World) (x:Sl) (T:TypeId):SrcG KSl (w.alloc (.cells #[.int .i64 x.p,.int .i64 x.a,.int .i64 x.b,.int .i64 x.lo.f,.int .u64 x.lo.h,.int .u64 x.lo.l,.int .i64 x.hi.f,.int .u64 x.hi.h,.int .u64 x.hi.l] T)) (some ⟨w.heap.size,0,none⟩) 1 [x]:=SrcG.new KSl w [x] T
theorem fam_fits {f:Int} {s:Sl} (h:DrawS f s):FitS s:=h.good.fit
structure DLs (W w wx:World) (k:Nat) (f:Int) (v:Value) (l:List Sl):Prop where
  cod:Cod W wx k
  gr:w.grownBy wx (some k)
  row:RowG KSl NSl wx w.heap.size v l
  all : ∀ s∈l,DrawS f s
def MadeL (W w:World) (k most:Nat) (e:Ending) (w':World):Prop:=∃ (v:Value) (l:List Sl) (f:Int),e=.returned v∧(f=4∨f=6)∧1≤l.length∧l.length≤most∧DLs W w w' k f v l
set_option maxHeartbeats 1600000 in
set_option maxRecDepth 100000 in
theorem sels_any (W w:World) (k:Nat) (h:Cod W w k) (most:Nat) (hm1:1≤most) (hm2:most≤256) :
    Calls Tryz.prog 33 #[.pointer (some ⟨k,0,none⟩),.int .i64 most] w (MadeL W w k most):=by
  have hk:=h.lt
  have hbase:=h.bel.size
  have HC0:=hidden h
  clear h
  go_enter Tryz.func33,Tryz.ntmps33
  go_upto_if 10 with (first
    | (go_at_call_of 10 (Value.int IntKind.i64 4);(with_reducible refine (next_any W _ k HC0.out _ ?_).mono ?_);omega;rintro e w1 ⟨r,rfl,r0,r1,hc,hg⟩;have HC1:=hidden hc;have HG1:=hidden hg;clear hc hg HC0)
    | fail)
  go_cut [5] from 8 to 10 (fun fv wx=>∃ f:Int,fv=.int .i64 f∧(f=4∨f=6)∧w1=wx)
  case first =>
    rcases hr:(r == 3) with _ | _
    · go_wp2
      go_meet
      case rel=>exact ⟨4,rfl,Or.inl rfl,rfl⟩
    · go_wp2
      go_meet
      case rel=>exact ⟨6,rfl,Or.inr rfl,rfl⟩
  case rest =>
    obtain ⟨f,rfl,hf,rfl⟩:=hcut
    have HSE:=hidden (fun w' (hc:Cod W w' k)=>sel_any W w' k hc f hf)
    go_upto_region 6 with (first
      | (go_at_call 10;(with_reducible refine (next_any W _ k HC1.out _ ?_).mono ?_);omega;rintro e w2 ⟨N,rfl,N0,N1,hc,hg⟩;have HC2:=hidden hc;have HG2:=hidden (grown_trans HG1.out hg);clear hc hg HC1 HG1)
      | fail)
    obtain ⟨N,rfl⟩:=Int.eq_ofNat_of_zero_le N0
    go_wp2_with fail
    go_loopw [6,7] (fun v i wx=>∃ (j:Nat) (l:List Sl),i=.int .i64 j∧l.length+j=1+N∧DLs W w wx k f v l) (fun _ i _=>(intOf i).toNat)
    case atStart=>exact ⟨1+N,[],by simp,by simp,⟨HC2.out,HG2.out,RowG.nil _ _ _ _,fun s hs=>by cases hs⟩⟩
    case round =>
      obtain ⟨j,l,rfl,hj,hdl⟩:=hrel
      obtain ⟨po,co,rfl⟩:=hdl.row.form rfl
      have HD:=hidden hdl
      clear hdl HC2 HG2
      by_cases h0:j=0
      · subst h0
        go_wp2
        go_ret
        exact ⟨_,l,f,rfl,hf,by omega,by omega,HD.out⟩
      · have hj0:(0:Int)<j:=by omega
        go_wp2_with (first
          | (go_at_call 56;(with_reducible refine (HSE.out _ HD.out.cod).mono ?_);rintro e w3 ⟨s,rfl,hs,hc,hg⟩;have HS:=hidden hs;have HC3:=hidden (hc.alloc (.cells #[.int .i64 s.p,.int .i64 s.a,.int .i64 s.b,.int .i64 s.lo.f,.int .u64 s.lo.h,.int .u64 s.lo.l,.int .i64 s.hi.f,.int .u64 s.hi.h,.int .u64 s.hi.l] 122));have HG3:=hidden (grown_alloc_new (grown_trans HD.out.gr hg) (.cells #[.int .i64 s.p,.int .i64 s.a,.int .i64 s.b,.int .i64 s.lo.f,.int .u64 s.lo.h,.int .u64 s.lo.l,.int .i64 s.hi.f,.int .u64 s.hi.h,.int .u64 s.hi.l] 122));have HR3:Hid (RowG KSl NSl (w3.alloc (.cells #[.int .i64 s.p,.int .i64 s.a,.int .i64 s.b,.int .i64 s.lo.f,.int .u64 s.lo.h,.int .u64 s.lo.l,.int .i64 s.hi.f,.int .u64 s.hi.h,.int .u64 s.hi.l] 122)) w.heap.size (.slice po l.length co) l):=hidden ((HD.out.row.low hg hk).alloc _);clear hs hc hg)
          | (at_builtin;go_loud (refine wpList_append_g knownSl (by simp [NSl]) _ rfl _ _ rfl w.heap.size _ l rfl HR3.out _ 1 1 [s] rfl (srcSl w3 s _) (fun x hx=>by rw [List.mem_singleton.1 hx];exact fam_fits HS.out) (by unfold maxLen;omega) (by omega) (by have:=HG3.out.size;simp at this ⊢;omega) ?_))
          | fail)
        intro v' w4 hr4 hg4
        have hlt:=HR3.out.lt
        have HC4:=hidden (HC3.out.grown hg4 (by intro e;have:=hlt k e.symm;omega) (fun j hj=>by have:=(hlt j hj).1;omega))
        have HG4:=hidden (grown_own HG3.out hg4 (fun j hj=>(hlt j hj).1))
        have HR4:=hidden hr4
        clear hr4 hg4 hlt HR3 HC3 HG3
        go_wp2
        go_roundw
        case rel=>exact ⟨j - 1,l++[s],by go_num,by simp;omega,⟨HC4.out,HG4.out,HR4.out,fun t ht=>by
          rcases List.mem_append.1 ht with ht | ht
          · exact HD.out.all t ht
          · rw [List.mem_singleton.1 ht];exact HS.out⟩⟩
        case measure=>simp [intOf];omega
end Go.Proofs.YtgpigjoonhghhaaGreat

namespace Go.Proofs.YtgpigjoonhghhaaGreat
open Go.RowKit
set_option linter.unusedVariables false
def GotB (w:World) (ys:List Int) (e:Ending) (w':World):Prop:=∃ q m d,e=.returned (.slice q m d)∧ys.length=m∧Own w' w.heap.size 5 (.slice q m d) ys∧Byt w' q m d ys∧Below w.heap.size w w'
theorem GotB.base {w0 w:World} {ys:List Int} {e:Ending} {w':World} (h:GotB w ys e w') (hb:Below w0.heap.size w0 w):GotB w0 ys e w':=by
  obtain ⟨q,m,d,h1,h2,h3,h4,h5⟩:=h
  exact ⟨q,m,d,h1,h2,h3.mono hb.size,h4,hb.trans (h5.mono hb.size)⟩
end Go.Proofs.YtgpigjoonhghhaaGreat

namespace Go.Proofs.YtgpigjoonhghhaaGreat
open Go.RowKit
set_option linter.unusedVariables false
def cntE (n:Int):Int:=if n=0 then 8 else if n > 16 then 10 else 0
theorem count_any (n:Int) (w:World):Calls Tryz.prog 116 #[.int .i64 n] w fun e w'=>e=.returned (.int .i64 (cntE n))∧w=w':=by
  unfold cntE
  by_cases h0:n=0
  · subst h0
    go_enter Tryz.func116,Tryz.ntmps116
    go_wp2
    go_ret
    exact ⟨rfl,rfl⟩
  have h0':(n == 0)=false:=by simpa using h0
  rw [if_neg h0]
  by_cases h1:n > 16
  · rw [if_pos h1]
    go_enter Tryz.func116,Tryz.ntmps116
    go_wp2
    go_ret
    exact ⟨rfl,rfl⟩
  · rw [if_neg h1]
    go_enter Tryz.func116,Tryz.ntmps116
    go_wp2
    go_ret
    exact ⟨rfl,rfl⟩
theorem errL_drop (l:List Sl) (j:Nat) (hj:j<l.length):errL (l.drop j)=if checkS l[j]≠0 then checkS l[j] else errL (l.drop (j+1)):=by
  rw [List.drop_eq_getElem_cons hj]
  rfl
theorem rd_sl {w:World} {p:Option Addr} {n c:Nat} {l:List Sl} (h:RdG KSl DSlr w p n c l) (j:Nat) (hj:j<l.length) : ∃ g,p=some ⟨g,0,none⟩∧w.cell? ⟨g,j*9,none⟩=some (.int .i64 l[j].p)∧w.cell? ⟨g,j*9+1,none⟩=some (.int .i64 l[j].a)∧w.cell? ⟨g,j*9+2,none⟩=some (.int .i64 l[j].b)∧w.cell? ⟨g,j*9+3,none⟩=some (.int .i64 l[j].lo.f)∧w.cell? ⟨g,j*9+4,none⟩=some (.int .u64 l[j].lo.h)∧w.cell? ⟨g,j*9+5,none⟩=some (.int .u64 l[j].lo.l)∧w.cell? ⟨g,j*9+6,none⟩=some (.int .i64 l[j].hi.f)∧w.cell? ⟨g,j*9+7,none⟩=some (.int .u64 l[j].hi.h)∧w.cell? ⟨g,j*9+8,none⟩=some (.int .u64 l[j].hi.l)∧FitS l[j]:=by
  obtain ⟨g,e,hc,hok⟩:=h.cell j hj
  exact ⟨g,e,hc 0 _ rfl,hc 1 _ rfl,hc 2 _ rfl,hc 3 _ rfl,hc 4 _ rfl,hc 5 _ rfl,hc 6 _ rfl,hc 7 _ rfl,hc 8 _ rfl,hok⟩
set_option maxHeartbeats 800000 in
set_option maxRecDepth 100000 in
theorem each_any (p:Option Addr) (n c:Nat) (l:List Sl) (w:World) (h:RdG KSl DSlr w p n c l) (E:Int) (hE:errL l=E) :
    Calls Tryz.prog 118 #[.slice p n c] w fun e w'=>e=.returned (.int .i64 E)∧Below w.heap.size w w':=by
  have HL:=hidden h
  have hn:=h.le
  have HE:=hidden hE
  have HLen:=hidden h.len
  clear h hE
  go_enter Tryz.func118,Tryz.ntmps118
  go_wp2
  go_loopw [8] (fun i wr=>∃ j:Nat,j≤n∧i=.int .i64 j∧errL (l.drop j)=E∧Below w.heap.size w wr) (fun i _=>n - (intOf i).toNat)
  case atStart=>exact ⟨0,by omega,rfl,by rw [List.drop_zero];exact HE.out,Below.refl _ _⟩
  case round =>
    obtain ⟨j,hj,rfl,he,hb⟩:=hrel
    have HB:=hidden hb
    by_cases hlt:j<n
    · have hlt':(j:Int)<n:=by omega
      have hjl:j<l.length:=by rw [HLen.out];exact hlt
      rw [errL_drop l j hjl] at he
      obtain ⟨g,rfl,c0,c1,c2,c3,c4,c5,c6,c7,c8,-⟩:=rd_sl (HL.out.below hb) j hjl
      obtain ⟨s,hs⟩ : ∃ s,l[j]=s:=⟨_,rfl⟩
      rw [hs] at he c0 c1 c2 c3 c4 c5 c6 c7 c8
      obtain ⟨z,hz⟩ : ∃ z,checkS s=z:=⟨_,rfl⟩
      rw [hz] at he
      have HC:=hidden (scheck_at s z hz)
      have HHE:=hidden he
      have hb9:j*9+8≤9223372036854775807*9:=by omega
      clear hs hz hjl hb he
      by_cases hz0:z=0
      · subst hz0
        go_wp2_with (first
          | (go_at_call 123;(with_reducible refine (HC.out _).mono ?_);rintro e w1 ⟨rfl,hb1⟩;have HB1:=hidden ((HB.out.alloc HB.out.size (.cells #[.int .i64 s.p,.int .i64 s.a,.int .i64 s.b,.int .i64 s.lo.f,.int .u64 s.lo.h,.int .u64 s.lo.l,.int .i64 s.hi.f,.int .u64 s.hi.h,.int .u64 s.hi.l] 122)).trans (hb1.mono (HB.out.alloc HB.out.size (.cells #[.int .i64 s.p,.int .i64 s.a,.int .i64 s.b,.int .i64 s.lo.f,.int .u64 s.lo.h,.int .u64 s.lo.l,.int .i64 s.hi.f,.int .u64 s.hi.h,.int .u64 s.hi.l] 122)).size));clear hb1)
          | fail)
        go_roundw
        case rel=>exact ⟨j+1,by omega,by go_num,by have:=HHE.out;simpa using this,HB1.out⟩
        case measure=>simp [intOf];omega
      · have hz':(z != 0)=true:=by simpa using hz0
        have hEz:z=E:=by have:=HHE.out;rw [if_pos hz0] at this;exact this
        subst hEz
        clear hz0 HHE HE
        go_wp2_with (first
          | (go_at_call 123;(with_reducible refine (HC.out _).mono ?_);rintro e w1 ⟨rfl,hb1⟩;have HB1:=hidden ((HB.out.alloc HB.out.size (.cells #[.int .i64 s.p,.int .i64 s.a,.int .i64 s.b,.int .i64 s.lo.f,.int .u64 s.lo.h,.int .u64 s.lo.l,.int .i64 s.hi.f,.int .u64 s.hi.h,.int .u64 s.hi.l] 122)).trans (hb1.mono (HB.out.alloc HB.out.size (.cells #[.int .i64 s.p,.int .i64 s.a,.int .i64 s.b,.int .i64 s.lo.f,.int .u64 s.lo.h,.int .u64 s.lo.l,.int .i64 s.hi.f,.int .u64 s.hi.h,.int .u64 s.hi.l] 122)).size));clear hb1)
          | fail)
        go_ret
        exact ⟨rfl,HB1.out⟩
    · obtain rfl:j=n:=by omega
      rw [List.drop_eq_nil_of_le (by rw [HLen.out];omega)] at he
      have he':(0:Int)=E:=he
      subst he'
      clear hb he HE
      go_wp2
      go_ret
      exact ⟨rfl,HB.out⟩
def BuiltS (w:World) (L:List Int) (E:Int) (e:Ending) (w':World):Prop:=∃ v,e=.returned (.tuple #[v,.int .i64 E])∧Own w' w.heap.size 5 v L∧Below w.heap.size w w'
theorem built_none (w w':World) (L:List Int) (E E':Int) (h:([],E)=(L,E')) (hb:Below w.heap.size w w'):BuiltS w L E' (.returned (.tuple #[.slice none 0 0,.int .i64 E])) w':=by
  obtain ⟨rfl,rfl⟩:=Prod.mk.inj h
  exact ⟨_,rfl,Own.nil _ _ _,hb⟩
theorem encL_le : ∀ (l:List Sl),(∀ s∈l,GoodS s)→(encL l).length≤l.length*40
  | [],_=>by simp [encL]
  | s :: l,h=>by
    have h1:=encL_le l (fun t ht=>h t (by simp [ht]))
    have h2:=(one_enc (h s (by simp)) []).2
    simp only [encL,List.length_append,List.length_cons]
    omega
theorem encL_take (l:List Sl) (j:Nat) (hj:j<l.length):encL (l.take (j+1))=encL (l.take j)++encO l[j]:=by
  rw [List.take_succ_eq_append_getElem hj,encL_append]
  simp [encL]
theorem own_four (w:World) (base:Nat) (hb:base≤w.heap.size) (x0 x1 x2 x3:Int):Own (w.alloc (.cells #[.int .u8 x0,.int .u8 x1,.int .u8 x2,.int .u8 x3] 5)) base 5 (.slice (some ⟨w.heap.size,0,none⟩) 4 4) [x0,x1,x2,x3]:=by
  have:=World.ownsRow_lit (base:=base) (e:=5) (size:=1) w #[.int .u8 x0,.int .u8 x1,.int .u8 x2,.int .u8 x3] 4 hb (by unfold maxLen;omega) rfl
  exact this
end Go.Proofs.YtgpigjoonhghhaaGreat

namespace Go.Proofs.YtgpigjoonhghhaaGreat
open Go.RowKit
set_option linter.unusedVariables false
theorem take_next {α:Type} {la lb:List α} {j:Nat} (ha:j<la.length) (hb:j<lb.length) (h:la.take j=lb.take j) (e:la[j]=lb[j]):la.take (j+1)=lb.take (j+1):=by
  rw [←List.take_append_getElem ha,←List.take_append_getElem hb,h,e]
theorem take_whole {α:Type} {la lb:List α} {n:Nat} (ha:la.length=n) (hb:lb.length=n) (h:la.take n=lb.take n):la=lb:=by
  rw [List.take_of_length_le (by omega),List.take_of_length_le (by omega)] at h
  exact h
theorem differ_at {α:Type} {la lb:List α} {j:Nat} (ha:j<la.length) (hb:j<lb.length) (e:la[j]≠lb[j]):la≠lb:=fun h=>e (by subst h;rfl)
theorem differ_len {α:Type} {la lb:List α} {n m:Nat} (ha:la.length=n) (hb:lb.length=m) (h:n≠m):la≠lb:=fun e=>h (by rw [←ha,←hb,e])
theorem ne_trN (w:World) (x y:Tr) (h:x≠y):(binOp .neq 118 (.agg #[.int .i64 x.t,.int .i64 x.i,.int .i64 x.k]) (.agg #[.int .i64 y.t,.int .i64 y.i,.int .i64 y.k])).run Tryz.prog w=.ok (.bool true) w:=by
  obtain ⟨a0,a1,a2⟩:=x;obtain ⟨b0,b1,b2⟩:=y
  by_cases e0:a0=b0
  rotate_left
  · have f0:(a0 == b0)=false:=by simpa using e0
    go_simp
  subst e0
  by_cases e1:a1=b1
  rotate_left
  · have f1:(a1 == b1)=false:=by simpa using e1
    go_simp
  subst e1
  have e2:¬ a2=b2:=fun e=>h (by rw [e])
  have f2:(a2 == b2)=false:=by simpa using e2
  go_simp
theorem ne_slN (w:World) (x y:Sl) (h:x≠y):(binOp .neq 122 (.agg #[.int .i64 x.p,.int .i64 x.a,.int .i64 x.b,.int .i64 x.lo.f,.int .u64 x.lo.h,.int .u64 x.lo.l,.int .i64 x.hi.f,.int .u64 x.hi.h,.int .u64 x.hi.l]) (.agg #[.int .i64 y.p,.int .i64 y.a,.int .i64 y.b,.int .i64 y.lo.f,.int .u64 y.lo.h,.int .u64 y.lo.l,.int .i64 y.hi.f,.int .u64 y.hi.h,.int .u64 y.hi.l])).run Tryz.prog w=.ok (.bool true) w:=by
  obtain ⟨a0,a1,a2,⟨a3,a4,a5⟩,⟨a6,a7,a8⟩⟩:=x;obtain ⟨b0,b1,b2,⟨b3,b4,b5⟩,⟨b6,b7,b8⟩⟩:=y
  by_cases e0:a0=b0
  rotate_left
  · have f0:(a0 == b0)=false:=by simpa using e0
    go_simp
  subst e0
  by_cases e1:a1=b1
  rotate_left
  · have f1:(a1 == b1)=false:=by simpa using e1
    go_simp
  subst e1
  by_cases e2:a2=b2
  rotate_left
  · have f2:(a2 == b2)=false:=by simpa using e2
    go_simp
  subst e2
  by_cases e3:a3=b3
  rotate_left
  · have f3:(a3 == b3)=false:=by simpa using e3
    go_simp
  subst e3
  by_cases e4:a4=b4
  rotate_left
  · have f4:(a4 == b4)=false:=by simpa using e4
    go_simp
  subst e4
  by_cases e5:a5=b5
  rotate_left
  · have f5:(a5 == b5)=false:=by simpa using e5
    go_simp
  subst e5
  by_cases e6:a6=b6
  rotate_left
  · have f6:(a6 == b6)=false:=by simpa using e6
    go_simp
  subst e6
  by_cases e7:a7=b7
  rotate_left
  · have f7:(a7 == b7)=false:=by simpa using e7
    go_simp
  subst e7
  have e8:¬ a8=b8:=fun e=>h (by rw [e])
  have f8:(a8 == b8)=false:=by simpa using e8
  go_simp
theorem eq_trN (w:World) (a b c:Int):(binOp .neq 118 (.agg #[.int .i64 a,.int .i64 b,.int .i64 c]) (.agg #[.int .i64 a,.int .i64 b,.int .i64 c])).run Tryz.prog w=.ok (.bool false) w:=by
  go_simp
set_option maxHeartbeats 1600000 in
set_option maxRecDepth 100000 in
theorem same5_any (p q:Option Addr) (n c m d:Nat) (la lb:List Sl) (w:World) (h:RdG KSl DSlr w p n c la) (k:RdG KSl DSlr w q m d lb) :
    Calls Tryz.prog 68 #[.slice p n c,.slice q m d] w fun e w'=>e=.returned (.bool (decide (la=lb)))∧Below w.heap.size w w':=by
  have hn:=h.le
  have hm:=k.le
  have H:=hidden h
  have K:=hidden k
  have HL:=hidden h.len
  have KL:=hidden k.len
  clear h k
  by_cases hnm:n=m
  rotate_left
  · have hne:((n:Int) != (m:Int))=true:=by simp;omega
    have hd:=decide_eq_false (differ_len HL.out KL.out hnm)
    go_enter Tryz.func68,Tryz.ntmps68
    go_wp2
    go_ret
    exact ⟨by rw [hd];rfl,Below.refl _ _⟩
  subst hnm
  go_enter Tryz.func68,Tryz.ntmps68
  go_wp2
  go_loopw [5] (fun i wr=>∃ j:Nat,j≤n∧i=.int .i64 j∧la.take j=lb.take j∧Below w.heap.size w wr) (fun i _=>n - (intOf i).toNat)
  case atStart=>exact ⟨0,by omega,rfl,by simp,Below.refl _ _⟩
  case round =>
    obtain ⟨j,hj,rfl,ht,hb⟩:=hrel
    have HB:=hidden hb
    have HT:=hidden ht
    clear ht
    by_cases hlt:j<n
    · have hlt':(j:Int)<n:=by omega
      have hja:j<la.length:=by rw [HL.out];exact hlt
      have hjb:j<lb.length:=by rw [KL.out];exact hlt
      obtain ⟨g,rfl,a0,a1,a2,a3,a4,a5,a6,a7,a8,-⟩:=rd_sl (H.out.below hb) j hja
      obtain ⟨g',rfl,b0,b1,b2,b3,b4,b5,b6,b7,b8,-⟩:=rd_sl (K.out.below hb) j hjb
      obtain ⟨x,hx⟩ : ∃ x,la[j]=x:=⟨_,rfl⟩
      obtain ⟨y,hy⟩ : ∃ y,lb[j]=y:=⟨_,rfl⟩
      rw [hx] at a0 a1 a2 a3 a4 a5 a6 a7 a8
      rw [hy] at b0 b1 b2 b3 b4 b5 b6 b7 b8
      by_cases hxy:x=y
      · have HN:=hidden (take_next hja hjb HT.out (by rw [hx,hy,hxy]))
        subst hxy
        clear hx hy hja hjb hb HT
        obtain ⟨sp,sa,sb,⟨lf,lh,ll⟩,⟨hf,hh,hl⟩⟩:=x
        simp only at a0 a1 a2 a3 a4 a5 a6 a7 a8 b0 b1 b2 b3 b4 b5 b6 b7 b8
        go_wp2
        go_quiet (fail)
        go_wp2
        go_roundw
        case rel=>exact ⟨j+1,by omega,by go_num,HN.out,HB.out.trans (drew_below ⟨_,rfl⟩)⟩
        case measure=>simp [intOf];omega
      · have HD:=hidden (decide_eq_false (differ_at hja hjb (by rw [hx,hy];exact hxy)))
        have hqn:=fun w=>ne_slN w x y hxy
        clear hx hy hja hjb hb HT hxy
        go_wp2
        go_quiet (fail)
        go_wp2
        go_ret
        exact ⟨by rw [HD.out];rfl,HB.out.trans (drew_below ⟨_,rfl⟩)⟩
    · obtain rfl:j=n:=by omega
      have hd:=decide_eq_true (take_whole HL.out KL.out HT.out)
      clear hb
      go_wp2
      go_ret
      exact ⟨by rw [hd];rfl,HB.out⟩
end Go.Proofs.YtgpigjoonhghhaaGreat

namespace Go.Proofs.YtgpigjoonhghhaaGreat
open Go.RowKit
set_option linter.unusedVariables false
structure DrawnT (ts:List Tr):Prop where
  some_:1≤ts.length
  few:ts.length≤6
  ok : ∀ x∈ts,OkT x
  nodup:ts.Nodup
structure DrawnP (pr n:Int) (x:PrP):Prop where
  n:x.n=n
  p:x.p=pr
  s:x.s.length=if pr=1 then 0 else 4
  ts:DrawnT x.ts
def DrawnL (pr:Int) (ls:List PrP):Prop:=∀ j (h:j<ls.length),DrawnP pr ((j:Int)+1) ls[j]
theorem DrawnL.nil (pr:Int):DrawnL pr []:=fun j h=>by simp at h
theorem DrawnL.snoc {pr:Int} {ls:List PrP} (h:DrawnL pr ls) {x:PrP} (hx:DrawnP pr ((ls.length:Int)+1) x):DrawnL pr (ls++[x]):=fun j hj=>by
  by_cases hl:j<ls.length
  · rw [List.getElem_append_left hl]
    exact h j hl
  · have:j=ls.length:=by simp at hj;omega
    subst this
    simp
    exact hx
structure IS (W wr wq:World) (k Bm:Nat) (n pr:Int) (sp:Option Addr) (sn sc:Nat) (s:List Int) (tp:Option Addr) (tc:Nat) (tm ts:List Tr):Prop where
  cod:Cod W wq k
  gr:wr.grownBy wq (some k)
  kl:k<wr.heap.size
  lm:wr.heap.size<Bm
  lw:Bm<wq.heap.size
  pin:PrIn wq wr.heap.size n pr (.slice sp sn sc) (.slice tp ts.length tc)
  bod:Bod wq (wr.heap.size+1) sp sn sc s
  seen:Seen wq Bm tm
  row:RowG KTr NTr wq (Bm+1) (.slice tp ts.length tc) ts
section
variable {W wr wq w2:World} {k Bm:Nat} {n pr:Int} {sp:Option Addr} {sn sc:Nat} {s:List Int} {tp:Option Addr} {tc:Nat} {tm ts:List Tr}
theorem IS.next (h:IS W wr wq k Bm n pr sp sn sc s tp tc tm ts) (hc:Cod W w2 k) (hg:wq.grownBy w2 (some k)):IS W wr w2 k Bm n pr sp sn sc s tp tc tm ts:=by
  have h1:=h.kl
  have h2:=h.lm
  exact ⟨hc,grown_trans h.gr hg,h.kl,h.lm,Nat.lt_of_lt_of_le h.lw hg.size,h.pin.grown hg (by simp;omega),h.bod.grown hg (OffB.low (by omega)),h.seen.grown hg (by simp;omega),h.row.low hg (by omega)⟩
theorem IS.below (h:IS W wr wq k Bm n pr sp sn sc s tp tc tm ts) (hb:Below wq.heap.size wq w2):IS W wr w2 k Bm n pr sp sn sc s tp tc tm ts:=h.next (h.cod.below hb) (grown_of_below hb _)
theorem IS.map (h:IS W wr wq k Bm n pr sp sn sc s tp tc tm ts) (hg:wq.grownBy w2 (some Bm)) (tm':List Tr) (hs:Seen w2 Bm tm'):IS W wr w2 k Bm n pr sp sn sc s tp tc tm' ts:=by
  have h1:=h.kl
  have h2:=h.lm
  have h3:=h.cod.base
  exact ⟨h.cod.grown hg (by simp;omega) (fun j hj=>by cases hj;omega),grown_own h.gr hg (fun j hj=>by cases hj;omega),h.kl,h.lm,Nat.lt_of_lt_of_le h.lw hg.size,h.pin.grown hg (by simp;omega),h.bod.grown hg (fun r hr=>by cases hr;exact Or.inr (fun cur fz=>h.seen.notCells _ _ _)),hs,h.row.low hg (by omega)⟩
theorem IS.store (hc:Cod W w2 k) (hg:wr.grownBy w2 (some k)) (hk:k<wr.heap.size) (hl:wr.heap.size<Bm) (hw:Bm<w2.heap.size) (hp:PrIn w2 wr.heap.size n pr (.slice sp sn sc) (.slice tp ts.length tc)) (hb:Bod w2 (wr.heap.size+1) sp sn sc s) (hs:Seen w2 Bm tm) (tp':Option Addr) (tc':Nat) (ts':List Tr) (hr:RowG KTr NTr w2 (Bm+1) (.slice tp' ts'.length tc') ts'):IS W wr (w2.setCell ⟨wr.heap.size,3,none⟩ (.slice tp' ts'.length tc')) k Bm n pr sp sn sc s tp' tc' tm ts':=by
  have h3:=hc.base
  have hgs:=grown_set w2 wr.heap.size 3 (.slice tp' ts'.length tc')
  exact ⟨hc.set _ _ _ (by omega) (by omega),grown_own hg hgs (fun j hj=>by cases hj;omega),hk,hl,Nat.lt_of_lt_of_le hw hgs.size,hp.set3 _ _ _,hb.grown hgs (OffB.low (by omega)),hs.grown hgs (by simp;omega),hr.low hgs (by omega)⟩
theorem IS.newset (h:IS W wr wq k Bm n pr sp sn sc s tp tc tm ts) (g j:Nat) (v:Value) {t i kk:Int} (ht:TrIn wq g t i kk) (hg:Bm<g) (hne:(Value.slice tp ts.length tc).ownBlock≠some g) (hb : ∀ cur fz,wq.heap[g]?≠some (.cells cur 5 fz)):IS W wr (wq.setCell ⟨g,j,none⟩ v) k Bm n pr sp sn sc s tp tc tm ts:=by
  have h1:=h.kl
  have h2:=h.lm
  have h3:=h.cod.base
  have hgs:=grown_set wq g j v
  exact ⟨h.cod.set _ _ _ (by omega) (by omega),grown_own h.gr hgs (fun i hi=>by cases hi;omega),h.kl,h.lm,Nat.lt_of_lt_of_le h.lw hgs.size,h.pin.grown hgs (by simp;omega),h.bod.grown hgs (fun r hr=>by cases hr;exact Or.inr hb),h.seen.grown hgs (by simp;omega),h.row.grown hgs (fun r hr e=>by cases hr;exact hne e) (fun r hr=>Or.inr (fun cur e fz _ hm=>by simp [NTr] at hm))⟩
theorem IS.rowed (h:IS W wr wq k Bm n pr sp sn sc s tp tc tm ts) (hg:wq.grownBy w2 (Value.slice tp ts.length tc).ownBlock):Cod W w2 k∧wr.grownBy w2 (some k)∧Bm<w2.heap.size∧PrIn w2 wr.heap.size n pr (.slice sp sn sc) (.slice tp ts.length tc)∧Bod w2 (wr.heap.size+1) sp sn sc s∧Seen w2 Bm tm:=by
  have h1:=h.kl
  have h2:=h.lm
  have h3:=h.cod.base
  have hl : ∀ j,(Value.slice tp ts.length tc).ownBlock=some j→Bm+1≤j:=fun j hj=>(h.row.lt j hj).1
  have hne : ∀ b,b≤Bm→some b≠(Value.slice tp ts.length tc).ownBlock:=fun b hb e=>by have:=hl b e.symm;omega
  refine ⟨h.cod.grown hg (hne k (by omega)) (fun j hj=>by have:=hl j hj;omega),grown_own h.gr hg (fun j hj=>by have:=hl j hj;omega),Nat.lt_of_lt_of_le h.lw hg.size,h.pin.grown hg (hne _ (by omega)),h.bod.grown hg (fun r hr=>?_),h.seen.grown hg (hne _ (Nat.le_refl _))⟩
  rcases h.row.offT (ts:=[5]) (base':=wr.heap.size+1) (by simp [KTr]) r hr with h4 | h4
  · exact Or.inl h4
  · exact Or.inr (fun cur fz e=>h4 _ _ _ e (by simp))
end
set_option maxHeartbeats 6400000 in
set_option maxRecDepth 100000 in
theorem drawP_any (W w:World) (k:Nat) (h:Cod W w k) (most:Nat) (hm1:1≤most) (hm2:most≤100) (pr:Int) (hpr : -9223372036854775808≤pr∧pr≤9223372036854775807) :
    Calls Tryz.prog 32 #[.pointer (some ⟨k,0,none⟩),.int .i64 most,.int .i64 pr] w fun e w'=>∃ (v:Value) (ls:List PrP),e=.returned v∧1≤ls.length∧ls.length≤most∧DrawnL pr ls∧RowG KPr NPr w' w.heap.size v ls∧Cod W w' k∧w.grownBy w' (some k):=by
  have hmm:=@run_makeMap Tryz.prog
  have hk:=h.lt
  have H:=hidden h
  clear h
  go_enter Tryz.func32,Tryz.ntmps32
  go_wp2_with fail
  go_at_call 10
  (with_reducible refine (next_any W _ k H.out most (by omega)).mono ?_)
  rintro e w1 ⟨r,rfl,r0,r1,hc,hg⟩
  obtain ⟨r,rfl⟩:=Int.eq_ofNat_of_zero_le r0
  have HC:=hidden hc
  have HG:=hidden hg
  clear hc hg H
  go_wp2_with fail
  go_loopw [7,8] (fun u i wr=>∃ (c:Nat) (ls:List PrP),i=.int .i64 c∧ls.length+c=r+1∧DrawnL pr ls∧RowG KPr NPr wr w.heap.size u ls∧Cod W wr k∧w.grownBy wr (some k)) (fun _ i _=>(intOf i).toNat)
  case atStart=>exact ⟨r+1,[],by go_num,by simp,DrawnL.nil _,RowG.nil _ _ _ _,HC.out,HG.out⟩
  case round =>
    rename World=>wo
    obtain ⟨c,ls,rfl,hlc,hdr,hrow,hcod,hgr⟩:=hrel
    obtain ⟨po,co,rfl⟩:=hrow.form rfl
    have HRW:=hidden hrow
    have HCD:=hidden hcod
    have HGR:=hidden hgr
    have HDR:=hidden hdr
    clear hrow hcod hgr hdr
    by_cases hz:c=0
    · subst hz
      clear HC HG
      go_wp2_with fail
      go_ret
      exact ⟨_,ls,rfl,by omega,by omega,HDR.out,HRW.out,HCD.out,HGR.out⟩
    have hc0:(0:Int)<c:=by omega
    have hll:ls.length≤100:=by omega
    have hkr:k<wo.heap.size:=HCD.out.lt
    have hal:Below wo.heap.size wo (wo.alloc (.cells #[.int .i64 ((ls.length:Int)+1),.int .i64 pr,.slice none 0 0,.slice none 0 0] 115)):=(Below.refl _ _).alloc (Nat.le_refl _) _
    have HPI:=hidden (PrIn.new wo ((ls.length:Int)+1) pr none 0 0 none 0 0 115)
    have HCA:=hidden (HCD.out.below hal)
    have HGA:=hidden (grown_of_below hal (some k))
    have hsA:(wo.alloc (.cells #[.int .i64 ((ls.length:Int)+1),.int .i64 pr,.slice none 0 0,.slice none 0 0] 115)).heap.size=wo.heap.size+1:=by simp
    have HSA:=hidden hsA
    clear hal hsA
    rcases Classical.em (pr=1) with hp1 | hp1
    case' inl =>
      have hp2:(pr != 1)=false:=by simpa using hp1
      have HP1:=hidden hp1
      clear hp1
      go_wp2_with fail
      have hmp:=Seen.made (wo.alloc (.cells #[.int .i64 ((ls.length:Int)+1),.int .i64 pr,.slice none 0 0,.slice none 0 0] 115))
      have hb2:Below (wo.alloc (.cells #[.int .i64 ((ls.length:Int)+1),.int .i64 pr,.slice none 0 0,.slice none 0 0] 115)).heap.size (wo.alloc (.cells #[.int .i64 ((ls.length:Int)+1),.int .i64 pr,.slice none 0 0,.slice none 0 0] 115)) ((wo.alloc (.cells #[.int .i64 ((ls.length:Int)+1),.int .i64 pr,.slice none 0 0,.slice none 0 0] 115)).alloc (.map #[] 0)):=(Below.refl _ _).alloc (Nat.le_refl _) _
      rw [HSA.out] at hmp
      obtain ⟨Bm,hBm⟩ : ∃ Bm,wo.heap.size+1=Bm:=⟨_,rfl⟩
      have HIS:Hid (IS W wo ((wo.alloc (.cells #[.int .i64 ((ls.length:Int)+1),.int .i64 pr,.slice none 0 0,.slice none 0 0] 115)).alloc (.map #[] 0)) k Bm ((ls.length:Int)+1) pr none 0 0 [] none 0 [] []) :=
        hidden ⟨HCA.out.below hb2,grown_trans HGA.out (grown_of_below hb2 _),hkr,by omega,by subst hBm;simp,HPI.out.below hb2,Bod.nil _ _ _ _ (Nat.zero_le _),by rw [←hBm];exact hmp,RowG.nil _ _ _ _⟩
      obtain ⟨WS,hWS⟩ : ∃ WS,((wo.alloc (.cells #[.int .i64 ((ls.length:Int)+1),.int .i64 pr,.slice none 0 0,.slice none 0 0] 115)).alloc (.map #[] 0))=WS:=⟨_,rfl⟩
      rw [hBm,hWS]
      rw [hWS] at HIS
      obtain ⟨sp,sn,sc,s,hs4,HIS2⟩ : ∃ sp sn sc s,s.length=(if pr=1 then 0 else 4)∧Hid (IS W wo WS k Bm ((ls.length:Int)+1) pr sp sn sc s none 0 [] []):=⟨none,0,0,[],by rw [HP1.out];rfl,HIS⟩
      clear HIS hWS hBm hmp hb2 HP1 hp2
    case' inr =>
      have hp2:(pr != 1)=true:=by simpa using hp1
      have HP1:=hidden hp1
      clear hp1
      go_wp2_with fail
      go_at_call 34
      (refine (mbytes_any W _ k HCA.out 4 (by omega)).mono ?_)
      rintro e w2 ⟨p4,c4,s4,rfl,hbod4,hcod4,hg4⟩
      have hpi4:=HPI.out.grown hg4 (by simp;omega)
      have c2:=hpi4.c2
      have fr:=hpi4.fr
      have HBD4:=hidden hbod4
      have HCD4:=hidden hcod4
      have HGR4:=hidden (grown_trans HGA.out hg4)
      have HPI4:=hidden (hpi4.set2 p4 4 c4)
      have hs4z:wo.heap.size+1≤w2.heap.size:=by have:=hg4.size;have:=HSA.out;omega
      clear hpi4 hbod4 hcod4 hg4
      go_wp2_with fail
      have hmp:=Seen.made (w2.setCell ⟨wo.heap.size,2,none⟩ (.slice p4 4 c4))
      have hgs:=grown_set w2 wo.heap.size 2 (.slice p4 4 c4)
      have hss:(w2.setCell ⟨wo.heap.size,2,none⟩ (.slice p4 4 c4)).heap.size=w2.heap.size:=by simp [World.setCell]
      have hcw:=HCD4.out.set wo.heap.size 2 (.slice p4 4 c4) (by have:=HCD.out.base;omega) (by omega)
      have hbw:=HBD4.out.mono (show wo.heap.size+1≤(wo.alloc (.cells #[.int .i64 ((ls.length:Int)+1),.int .i64 pr,.slice none 0 0,.slice none 0 0] 115)).heap.size by rw [HSA.out];exact Nat.le_refl _)
      have hb2:Below (w2.setCell ⟨wo.heap.size,2,none⟩ (.slice p4 4 c4)).heap.size (w2.setCell ⟨wo.heap.size,2,none⟩ (.slice p4 4 c4)) ((w2.setCell ⟨wo.heap.size,2,none⟩ (.slice p4 4 c4)).alloc (.map #[] 0)):=(Below.refl _ _).alloc (Nat.le_refl _) _
      rw [hss] at hmp
      obtain ⟨Bm,hBm⟩ : ∃ Bm,w2.heap.size=Bm:=⟨_,rfl⟩
      have HIS:Hid (IS W wo ((w2.setCell ⟨wo.heap.size,2,none⟩ (.slice p4 4 c4)).alloc (.map #[] 0)) k Bm ((ls.length:Int)+1) pr p4 4 c4 s4 none 0 [] []) :=
        hidden ⟨hcw.below hb2,grown_trans (grown_own HGR4.out hgs (fun j hj=>by cases hj;omega)) (grown_of_below hb2 _),hkr,by omega,by subst hBm;simp [World.setCell],HPI4.out.below hb2,(hbw.grown hgs (OffB.low (by omega))).below hb2,by rw [←hBm];exact hmp,RowG.nil _ _ _ _⟩
      obtain ⟨WS,hWS⟩ : ∃ WS,((w2.setCell ⟨wo.heap.size,2,none⟩ (.slice p4 4 c4)).alloc (.map #[] 0))=WS:=⟨_,rfl⟩
      rw [hWS]
      rw [hWS] at HIS
      try rw [hBm]
      obtain ⟨sp,sn,sc,s,hs4,HIS2⟩ : ∃ sp sn sc s,s.length=(if pr=1 then 0 else 4)∧Hid (IS W wo WS k Bm ((ls.length:Int)+1) pr sp sn sc s none 0 [] []):=⟨p4,4,c4,s4,by rw [if_neg HP1.out];exact HBD4.out.byt.len,HIS⟩
      clear HIS hWS hBm hmp hb2 HP1 hp2 hbw hcw hss hgs c2 fr HPI4 HGR4 HCD4 HBD4 hs4z
    all_goals
      go_at_call 10
      (with_reducible refine (next_any W _ k HIS2.out.cod 6 (by omega)).mono ?_)
      rintro e w5 ⟨r5,rfl,g0,g1,hc5,hg5⟩
      obtain ⟨r5,rfl⟩:=Int.eq_ofNat_of_zero_le g0
      have HI5:=hidden (HIS2.out.next hc5 hg5)
      have HS4:=hidden hs4
      clear hc5 hg5 HIS2 HC HG hs4 HPI HCA HGA HSA
      go_wp2_with fail
      go_loopw [11] (fun m wq=>∃ (d:Nat) (tp:Option Addr) (tc:Nat) (ts:List Tr),m=.int .i64 d∧ts.length+d≤6∧(ts.length=0→1≤d)∧(∀ x∈ts,OkT x)∧ts.Nodup∧IS W wo wq k Bm ((ls.length:Int)+1) pr sp sn sc s tp tc ts ts) (fun m _=>(intOf m).toNat)
      case atStart=>exact ⟨r5+1,none,0,[],by go_num,by simp;omega,by omega,by simp,List.nodup_nil,HI5.out⟩
      case round =>
        obtain ⟨d,tp,tc,ts,rfl,hld,hsome,hok,hnd,his⟩:=hrel
        have HI:=hidden his
        have HOK:=hidden hok
        have HND:=hidden hnd
        have HSM:=hidden hsome
        clear his hok hnd hsome HI5
        by_cases hd0:d=0
        · subst hd0
          have c0:=HI.out.pin.c0
          have c1:=HI.out.pin.c1
          have c2:=HI.out.pin.c2
          have c3:=HI.out.pin.c3
          have HRQ:=hidden (HRW.out.low HI.out.gr hk)
          have HGQ:=hidden (grown_trans HGR.out HI.out.gr)
          have hln:=HI.out.lm
          have hsw:=HGR.out.size
          obtain ⟨x,hx⟩ : ∃ x:PrP,(⟨(ls.length:Int)+1,pr,sp,sn,sc,s,tp,ts.length,tc,ts⟩:PrP)=x:=⟨_,rfl⟩
          have hokn:OkN wr w.heap.size x:=by
            subst hx
            exact ⟨⟨⟨by show -9223372036854775808≤(ls.length:Int)+1;omega,by show (ls.length:Int)+1≤9223372036854775807;omega⟩,hpr⟩,HI.out.bod.mono (by omega),HI.out.row.mono (by omega)⟩
          have hdp:DrawnP pr ((ls.length:Int)+1) x:=by
            subst hx
            exact ⟨rfl,rfl,HS4.out,⟨by have:=HSM.out;show 1≤ts.length;omega,by show ts.length≤6;omega,HOK.out,HND.out⟩⟩
          have HDX:=hidden (HDR.out.snoc hdp)
          have hal:Below wr.heap.size wr (wr.alloc (.cells (KPr.cs x).toArray 115)):=(Below.refl _ _).alloc (Nat.le_refl _) _
          have HX:=hidden (NPr.keep (base:=w.heap.size) (row:=none) hokn (grown_of_below hal none) (OffT.none _ _ _))
          have HCQ:=hidden HI.out.cod
          have hszq:=HGQ.out.size
          have hlnx:ls.length<100:=by omega
          subst hx
          clear hokn hdp hal HSM HOK HND HI
          go_wp2_with (at_builtin;go_loud (refine wpList_append_g knownPr (by simp [NPr,KPr]) _ rfl _ _ rfl w.heap.size _ ls rfl (HRQ.out.alloc _) _ 1 1 [⟨(ls.length:Int)+1,pr,sp,sn,sc,s,tp,ts.length,tc,ts⟩] rfl (srcPr wr ⟨(ls.length:Int)+1,pr,sp,sn,sc,s,tp,ts.length,tc,ts⟩ _) (fun x hx=>by rw [List.mem_singleton.1 hx];exact HX.out) ?b1 ?b2 ?b3 ?_))
          case b1=>unfold maxLen;omega
          case b2=>omega
          case b3=>simp;omega
          intro v6 w6 hrow6 hg6
          have hk6 : ∀ r,(Value.slice po ls.length co).ownBlock=some r→w.heap.size≤r:=fun r hr=>(HRQ.out.lt r hr).1
          have HR6:=hidden hrow6
          have HC6:=hidden ((HCQ.out.alloc (.cells (KPr.cs ⟨(ls.length:Int)+1,pr,sp,sn,sc,s,tp,ts.length,tc,ts⟩).toArray 115)).grown hg6 (fun e=>by have:=hk6 k e.symm;omega) (fun j hj=>by have:=hk6 j hj;have:=HCQ.out.base;omega))
          have HG6:=hidden (grown_own (grown_alloc_new HGQ.out _) hg6 hk6)
          clear hrow6 hg6 hk6
          go_wp2_with fail
          go_roundw
          case rel=>exact ⟨c - 1,ls++[⟨(ls.length:Int)+1,pr,sp,sn,sc,s,tp,ts.length,tc,ts⟩],by go_num,by simp;omega,HDX.out,HR6.out,HC6.out,HG6.out⟩
          case measure=>simp [intOf];omega
        have hd1:(0:Int)<d:=by omega
        go_wp2_with fail
        go_at_call 10
        (with_reducible refine (next_any W _ k HI.out.cod 3 (by omega)).mono ?_)
        rintro e w7 ⟨r7,rfl,g2,g3,hc7,hg7⟩
        have hi8:=(HI.out.next hc7 hg7).below ((Below.refl _ _).alloc (Nat.le_refl _) (.cells (([28,31,1024,5]:List Int).map (Value.int .i64)).toArray 3))
        have HI8:Hid (IS W wo (w7.alloc (.cells #[.int .i64 28,.int .i64 31,.int .i64 1024,.int .i64 5] 3)) k Bm ((ls.length:Int)+1) pr sp sn sc s tp tc ts ts):=hidden hi8
        have HL:=hidden (fun (j:Nat) (hj:j<4)=>ints_at w7 [28,31,1024,5] 3 j hj)
        clear hc7 hg7 hi8 HI
        go_wp2_with fail
        go_at_call 10
        (with_reducible refine (next_any W _ k HI8.out.cod 4 (by omega)).mono ?_)
        rintro e w8 ⟨r8,rfl,g4,g5,hc8,hg8⟩
        obtain ⟨r8,rfl⟩:=Int.eq_ofNat_of_zero_le g4
        have hcell:w8.cell? ⟨w7.heap.size,r8,none⟩=some (.int .i64 (([28,31,1024,5]:List Int).getD r8 0)):=hg8.cell (HL.out r8 (by omega)) (by have h1:=HI8.out.kl;have h2:=HI8.out.lm;have h3:=HI8.out.lw;simp at h3;simp;omega)
        have hvb:0≤([28,31,1024,5]:List Int).getD r8 0∧([28,31,1024,5]:List Int).getD r8 0≤65535:=by
          have:r8=0∨r8=1∨r8=2∨r8=3:=by omega
          rcases this with rfl | rfl | rfl | rfl<;>simp
        generalize ([28,31,1024,5]:List Int).getD r8 0=v8 at hcell hvb
        have HI9:=hidden (HI8.out.next hc8 hg8)
        obtain ⟨tt,htt⟩ : ∃ tt,1+r7=tt:=⟨_,rfl⟩
        have htb:1≤tt∧tt≤3:=by omega
        have hwt:IntKind.i64.wrap (1+r7)=tt:=by rw [IntKind.wrap_i64];omega
        have HIA:=hidden (HI9.out.below ((Below.refl _ _).alloc (Nat.le_refl _) (.cells #[.int .i64 tt,.int .i64 v8,.int .i64 0] 118)))
        have HTA:=hidden (TrIn.new w8 tt v8 0 118)
        have hk8:k<w8.heap.size:=by have h1:=HI9.out.kl;have h2:=HI9.out.lm;have h3:=HI9.out.lw;omega
        have hb8:wo.heap.size<w8.heap.size∧Bm<w8.heap.size:=⟨by have h2:=HI9.out.lm;have h3:=HI9.out.lw;omega,HI9.out.lw⟩
        have HNB:Hid ((Value.slice tp ts.length tc).ownBlock≠some w8.heap.size):=hidden (fun e=>by have:=(HI9.out.row.lt _ e).2;omega)
        have HBT:Hid ((w8.alloc (.cells #[.int .i64 tt,.int .i64 v8,.int .i64 0] 118)).heap[w8.heap.size]?=some (.cells #[.int .i64 tt,.int .i64 v8,.int .i64 0] 118)):=hidden (MapKept.heap_alloc w8 _).1
        clear hc8 hg8 HL HI8 HI9
        by_cases ht1:tt=1
        · have q1:(tt == 1)=true:=by simpa using ht1
          clear ht1
          go_wp2_with fail
          go_at_call 10
          (with_reducible refine (next_any W _ k HIA.out.cod 3 (by omega)).mono ?_)
          rintro e w9 ⟨r9,rfl,g6,g7,hc9,hg9⟩
          have HIB:=hidden (HIA.out.next hc9 hg9)
          have HTB:=hidden (HTA.out.grown hg9 (by simp;omega))
          have HBT9:=hidden ((hg9.block w8.heap.size (by simp) (by simp;omega)).trans HBT.out)
          clear hc9 hg9 HIA HTA
          have y0:=HTB.out.c0
          have y1:=HTB.out.c1
          have y2:=HTB.out.c2
          have yf:=HTB.out.fr
          by_cases h92:r9=2
          · have q2:(r9 == 2)=true:=by simpa using h92
            clear h92
            have HTZ:=hidden (HTB.out.set2 256)
            have HIZ:Hid (IS W wo (w9.setCell ⟨w8.heap.size,2,none⟩ (.int .i64 256)) k Bm ((ls.length:Int)+1) pr sp sn sc s tp tc ts ts):=hidden (HIB.out.newset w8.heap.size 2 (.int .i64 256) HTB.out hb8.2 HNB.out (fun cur fz e=>by rw [HBT9.out] at e;simp at e))
            have hint:IntT ⟨tt,v8,256⟩:=intT_of (by omega) hvb (by omega)
            have hokt:OkT ⟨tt,v8,256⟩:=⟨⟨by show 1≤tt;omega,by show tt≤5;omega⟩,hvb,⟨by show (0:Int)≤256;omega,by show (256:Int)≤65535;omega⟩⟩
            obtain ⟨cb,hcb⟩ : ∃ cb:Bool,cb=decide ((⟨tt,v8,256⟩:Tr)∈ts):=⟨_,rfl⟩
            have hlook:=HIZ.out.seen.look tt v8 256 hint cb hcb
            have z0:=HTZ.out.c0
            have z1:=HTZ.out.c1
            have z2:=HTZ.out.c2
            have HCB:=hidden hcb
            have HOT:=hidden hokt
            clear hcb hokt
            cases cb with
            | true =>
              have hmem:(⟨tt,v8,256⟩:Tr)∈ts:=by have:=HCB.out;simpa using this.symm
              have hts:ts.length≠0:=fun e=>by rw [List.eq_nil_of_length_eq_zero e] at hmem;cases hmem
              clear hmem
              go_wp2_with fail
              go_roundw
              case rel=>exact ⟨d - 1,tp,tc,ts,by go_num,by omega,fun e=>absurd e hts,HOK.out,HND.out,HIZ.out⟩
              case measure=>simp [intOf];omega
            | false =>
              have hmem:(⟨tt,v8,256⟩:Tr) ∉ ts:=by have:=HCB.out;simpa using this.symm
              have HNM:=hidden hmem
              clear hmem
              go_wp2_with (at_mapUpdate;refine wpList_seen _ rfl _ _ _ rfl Bm ts HIZ.out.seen ?m1 rfl tt v8 256 rfl rfl hint ?_)
              case m1=>unfold maxLen;omega
              intro w10 hsn hg10
              have HIX:=hidden (HIZ.out.map hg10 _ hsn)
              have htx:=HTZ.out.grown hg10 (by simp;omega)
              have HIT:=hidden hint
              have z0:=htx.c0
              have z1:=htx.c1
              have z2:=htx.c2
              have c3:=HIX.out.pin.c3
              have fr:=HIX.out.pin.fr
              have hlwx:=HIX.out.lw
              clear hlook hsn hg10 htx hint
              go_wp2_with (at_builtin;go_loud (refine wpList_append_g knownTr (by simp [NTr]) _ rfl _ _ rfl (Bm+1) _ ts rfl (HIX.out.row.alloc _) _ 1 1 [⟨tt,v8,256⟩] rfl (srcTr w10 tt v8 256 _) (fun x hx=>by rw [List.mem_singleton.1 hx];exact HIT.out) ?b1 ?b2 ?b3 ?_))
              case b1=>unfold maxLen;omega
              case b2=>omega
              case b3=>simp;omega
              intro v11 w11 hrow11 hg11
              obtain ⟨tp11,tc11,rfl⟩:=hrow11.form rfl
              obtain ⟨j1,j2,j3,j4,j5,j6⟩:=(HIX.out.below ((Below.refl _ _).alloc (Nat.le_refl _) _)).rowed hg11
              have d3:=j4.c3
              have fr2:=j4.fr
              have HFI:=hidden (IS.store j1 j2 HIX.out.kl HIX.out.lm j3 j4 j5 j6 tp11 tc11 _ hrow11)
              clear j1 j2 j3 j4 j5 j6 hg11 hrow11 z0 z1 z2
              go_wp2_with fail
              go_roundw
              case rel =>
                exact ⟨d - 1,tp11,tc11,ts++[⟨tt,v8,256⟩],by go_num,by simp;omega,fun e=>by simp at e,fun x hx=>by
                  rcases List.mem_append.1 hx with hx | hx
                  · exact HOK.out x hx
                  · rw [List.mem_singleton.1 hx];exact HOT.out,by
                  rw [List.nodup_append]
                  exact ⟨HND.out,by simp,fun a ha b hb=>by rw [List.mem_singleton.1 hb];intro e;subst e;exact HNM.out ha⟩,by have h:=HFI.out;rw [List.length_append,List.length_singleton] at h;exact h⟩
              case measure=>simp [intOf];omega
          · have q2:(r9 == 2)=false:=by simpa using h92
            clear h92
            have HTZ:=HTB
            have HIZ:=HIB
            have hint:IntT ⟨tt,v8,0⟩:=intT_of (by omega) hvb (by omega)
            have hokt:OkT ⟨tt,v8,0⟩:=⟨⟨by show 1≤tt;omega,by show tt≤5;omega⟩,hvb,⟨by show (0:Int)≤0;omega,by show (0:Int)≤65535;omega⟩⟩
            obtain ⟨cb,hcb⟩ : ∃ cb:Bool,cb=decide ((⟨tt,v8,0⟩:Tr)∈ts):=⟨_,rfl⟩
            have hlook:=HIZ.out.seen.look tt v8 0 hint cb hcb
            have z0:=HTZ.out.c0
            have z1:=HTZ.out.c1
            have z2:=HTZ.out.c2
            have HCB:=hidden hcb
            have HOT:=hidden hokt
            clear hcb hokt
            cases cb with
            | true =>
              have hmem:(⟨tt,v8,0⟩:Tr)∈ts:=by have:=HCB.out;simpa using this.symm
              have hts:ts.length≠0:=fun e=>by rw [List.eq_nil_of_length_eq_zero e] at hmem;cases hmem
              clear hmem
              go_wp2_with fail
              go_roundw
              case rel=>exact ⟨d - 1,tp,tc,ts,by go_num,by omega,fun e=>absurd e hts,HOK.out,HND.out,HIZ.out⟩
              case measure=>simp [intOf];omega
            | false =>
              have hmem:(⟨tt,v8,0⟩:Tr) ∉ ts:=by have:=HCB.out;simpa using this.symm
              have HNM:=hidden hmem
              clear hmem
              go_wp2_with (at_mapUpdate;refine wpList_seen _ rfl _ _ _ rfl Bm ts HIZ.out.seen ?m1 rfl tt v8 0 rfl rfl hint ?_)
              case m1=>unfold maxLen;omega
              intro w10 hsn hg10
              have HIX:=hidden (HIZ.out.map hg10 _ hsn)
              have htx:=HTZ.out.grown hg10 (by simp;omega)
              have HIT:=hidden hint
              have z0:=htx.c0
              have z1:=htx.c1
              have z2:=htx.c2
              have c3:=HIX.out.pin.c3
              have fr:=HIX.out.pin.fr
              have hlwx:=HIX.out.lw
              clear hlook hsn hg10 htx hint
              go_wp2_with (at_builtin;go_loud (refine wpList_append_g knownTr (by simp [NTr]) _ rfl _ _ rfl (Bm+1) _ ts rfl (HIX.out.row.alloc _) _ 1 1 [⟨tt,v8,0⟩] rfl (srcTr w10 tt v8 0 _) (fun x hx=>by rw [List.mem_singleton.1 hx];exact HIT.out) ?b1 ?b2 ?b3 ?_))
              case b1=>unfold maxLen;omega
              case b2=>omega
              case b3=>simp;omega
              intro v11 w11 hrow11 hg11
              obtain ⟨tp11,tc11,rfl⟩:=hrow11.form rfl
              obtain ⟨j1,j2,j3,j4,j5,j6⟩:=(HIX.out.below ((Below.refl _ _).alloc (Nat.le_refl _) _)).rowed hg11
              have d3:=j4.c3
              have fr2:=j4.fr
              have HFI:=hidden (IS.store j1 j2 HIX.out.kl HIX.out.lm j3 j4 j5 j6 tp11 tc11 _ hrow11)
              clear j1 j2 j3 j4 j5 j6 hg11 hrow11 z0 z1 z2
              go_wp2_with fail
              go_roundw
              case rel =>
                exact ⟨d - 1,tp11,tc11,ts++[⟨tt,v8,0⟩],by go_num,by simp;omega,fun e=>by simp at e,fun x hx=>by
                  rcases List.mem_append.1 hx with hx | hx
                  · exact HOK.out x hx
                  · rw [List.mem_singleton.1 hx];exact HOT.out,by
                  rw [List.nodup_append]
                  exact ⟨HND.out,by simp,fun a ha b hb=>by rw [List.mem_singleton.1 hb];intro e;subst e;exact HNM.out ha⟩,by have h:=HFI.out;rw [List.length_append,List.length_singleton] at h;exact h⟩
              case measure=>simp [intOf];omega
        · have q1:(tt == 1)=false:=by simpa using ht1
          clear ht1
          have HTZ:=HTA
          have HIZ:=HIA
          have hint:IntT ⟨tt,v8,0⟩:=intT_of (by omega) hvb (by omega)
          have hokt:OkT ⟨tt,v8,0⟩:=⟨⟨by show 1≤tt;omega,by show tt≤5;omega⟩,hvb,⟨by show (0:Int)≤0;omega,by show (0:Int)≤65535;omega⟩⟩
          obtain ⟨cb,hcb⟩ : ∃ cb:Bool,cb=decide ((⟨tt,v8,0⟩:Tr)∈ts):=⟨_,rfl⟩
          have hlook:=HIZ.out.seen.look tt v8 0 hint cb hcb
          have z0:=HTZ.out.c0
          have z1:=HTZ.out.c1
          have z2:=HTZ.out.c2
          have HCB:=hidden hcb
          have HOT:=hidden hokt
          clear hcb hokt
          cases cb with
          | true =>
            have hmem:(⟨tt,v8,0⟩:Tr)∈ts:=by have:=HCB.out;simpa using this.symm
            have hts:ts.length≠0:=fun e=>by rw [List.eq_nil_of_length_eq_zero e] at hmem;cases hmem
            clear hmem
            go_wp2_with fail
            go_roundw
            case rel=>exact ⟨d - 1,tp,tc,ts,by go_num,by omega,fun e=>absurd e hts,HOK.out,HND.out,HIZ.out⟩
            case measure=>simp [intOf];omega
          | false =>
            have hmem:(⟨tt,v8,0⟩:Tr) ∉ ts:=by have:=HCB.out;simpa using this.symm
            have HNM:=hidden hmem
            clear hmem
            go_wp2_with (at_mapUpdate;refine wpList_seen _ rfl _ _ _ rfl Bm ts HIZ.out.seen ?m1 rfl tt v8 0 rfl rfl hint ?_)
            case m1=>unfold maxLen;omega
            intro w10 hsn hg10
            have HIX:=hidden (HIZ.out.map hg10 _ hsn)
            have htx:=HTZ.out.grown hg10 (by simp;omega)
            have HIT:=hidden hint
            have z0:=htx.c0
            have z1:=htx.c1
            have z2:=htx.c2
            have c3:=HIX.out.pin.c3
            have fr:=HIX.out.pin.fr
            have hlwx:=HIX.out.lw
            clear hlook hsn hg10 htx hint
            go_wp2_with (at_builtin;go_loud (refine wpList_append_g knownTr (by simp [NTr]) _ rfl _ _ rfl (Bm+1) _ ts rfl (HIX.out.row.alloc _) _ 1 1 [⟨tt,v8,0⟩] rfl (srcTr w10 tt v8 0 _) (fun x hx=>by rw [List.mem_singleton.1 hx];exact HIT.out) ?b1 ?b2 ?b3 ?_))
            case b1=>unfold maxLen;omega
            case b2=>omega
            case b3=>simp;omega
            intro v11 w11 hrow11 hg11
            obtain ⟨tp11,tc11,rfl⟩:=hrow11.form rfl
            obtain ⟨j1,j2,j3,j4,j5,j6⟩:=(HIX.out.below ((Below.refl _ _).alloc (Nat.le_refl _) _)).rowed hg11
            have d3:=j4.c3
            have fr2:=j4.fr
            have HFI:=hidden (IS.store j1 j2 HIX.out.kl HIX.out.lm j3 j4 j5 j6 tp11 tc11 _ hrow11)
            clear j1 j2 j3 j4 j5 j6 hg11 hrow11 z0 z1 z2
            go_wp2_with fail
            go_roundw
            case rel =>
              exact ⟨d - 1,tp11,tc11,ts++[⟨tt,v8,0⟩],by go_num,by simp;omega,fun e=>by simp at e,fun x hx=>by
                rcases List.mem_append.1 hx with hx | hx
                · exact HOK.out x hx
                · rw [List.mem_singleton.1 hx];exact HOT.out,by
                rw [List.nodup_append]
                exact ⟨HND.out,by simp,fun a ha b hb=>by rw [List.mem_singleton.1 hb];intro e;subst e;exact HNM.out ha⟩,by have h:=HFI.out;rw [List.length_append,List.length_singleton] at h;exact h⟩
            case measure=>simp [intOf];omega
end Go.Proofs.YtgpigjoonhghhaaGreat
