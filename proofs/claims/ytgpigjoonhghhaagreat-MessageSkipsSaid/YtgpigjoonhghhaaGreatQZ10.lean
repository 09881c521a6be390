/-
 What the document's own questions on addresses and selectors answer.
 The address that a list of choices makes: it is valid, and of the family that is asked for.
-/
import Derived.Test.YtgpigjoonhghhaaGreatQZ9
import Derived.Deep.CutBlock
import Derived.Deep.RegionHeld3
import Derived.Deep.RegionWith
namespace Go.Proofs.YtgpigjoonhghhaaGreat
open Go.RowKit
set_option linter.unusedVariables false
theorem rvalid_any (x:Ad) (w:World) :
  Calls Tryz.prog 75 #[(.agg #[.int .i64 x.f,.int .u64 x.h,.int .u64 x.l])] w fun e w'=>e=.returned (.bool (validA x))∧Below w.heap.size w w':=by
 go_enter Tryz.func75,Tryz.ntmps75
 go_wp2
 all_goals go_ret
 all_goals refine ⟨?_,(Below.refl _ _).alloc (Nat.le_refl _) _⟩
 all_goals simp_all [validA]
 all_goals (rw [Bool.eq_iff_iff];simp)
theorem rless_any (x y:Ad) (w:World) :
  Calls Tryz.prog 76 #[(.agg #[.int .i64 x.f,.int .u64 x.h,.int .u64 x.l]),(.agg #[.int .i64 y.f,.int .u64 y.h,.int .u64 y.l])] w fun e w'=>e=.returned (.bool (ltA x y))∧Below w.heap.size w w':=by
 obtain ⟨xf,xh,xl⟩:=x
 obtain ⟨yf,yh,yl⟩:=y
 by_cases h1:xf≠yf
 ·have e1:(xf != yf)=true:=by simpa using h1
  go_enter Tryz.func76,Tryz.ntmps76
  go_wp2
  go_ret
  exact ⟨by simp [ltA,h1],below_two _ _⟩
 obtain rfl:xf=yf:=by omega
 have e1:(xf != xf)=false:=by simp
 by_cases h2:xh≠yh
 ·have e2:(xh != yh)=true:=by simpa using h2
  go_enter Tryz.func76,Tryz.ntmps76
  go_wp2
  go_ret
  exact ⟨by simp [ltA,h2],below_two _ _⟩
 obtain rfl:xh=yh:=by omega
 have e2:(xh != xh)=false:=by simp
 go_enter Tryz.func76,Tryz.ntmps76
 go_wp2
 go_ret
 exact ⟨by simp [ltA],below_two _ _⟩
theorem checkR_cases (s:Sl) (b1 b2 b3:Bool) (h1:validA s.lo=b1) (h2:validA s.hi=b2) (h3:ltA s.hi s.lo=b3) (z:Int) (h:checkS s=z) :
  (b1=false∧z=15)∨(b1=true∧b2=false∧z=15)∨(b1=true∧b2=true∧(s.lo.f != s.hi.f)=true∧z=15)∨(b1=true∧b2=true∧(s.lo.f != s.hi.f)=false∧b3=true∧z=5) ∨
  (b1=true∧b2=true∧(s.lo.f != s.hi.f)=false∧b3=false∧s.p<0∧z=5)∨(b1=true∧b2=true∧(s.lo.f != s.hi.f)=false∧b3=false∧¬ s.p<0∧s.p > 255∧z=5) ∨
  (b1=true∧b2=true∧(s.lo.f != s.hi.f)=false∧b3=false∧¬ s.p<0∧¬ s.p > 255∧(s.a == 65535)=true∧(s.b == 0)=true∧z=0) ∨
  (b1=true∧b2=true∧(s.lo.f != s.hi.f)=false∧b3=false∧¬ s.p<0∧¬ s.p > 255∧((s.a == 65535)=false∨((s.a == 65535)=true∧(s.b == 0)=false))∧s.a<0∧z=5) ∨
  (b1=true∧b2=true∧(s.lo.f != s.hi.f)=false∧b3=false∧¬ s.p<0∧¬ s.p > 255∧((s.a == 65535)=false∨((s.a == 65535)=true∧(s.b == 0)=false))∧¬ s.a<0∧s.b > 65535∧z=5) ∨
  (b1=true∧b2=true∧(s.lo.f != s.hi.f)=false∧b3=false∧¬ s.p<0∧¬ s.p > 255∧((s.a == 65535)=false∨((s.a == 65535)=true∧(s.b == 0)=false))∧¬ s.a<0∧¬ s.b > 65535∧s.a > s.b∧z=5) ∨
  (b1=true∧b2=true∧(s.lo.f != s.hi.f)=false∧b3=false∧¬ s.p<0∧¬ s.p > 255∧((s.a == 65535)=false∨((s.a == 65535)=true∧(s.b == 0)=false))∧¬ s.a<0∧¬ s.b > 65535∧¬ s.a > s.b∧z=0):=by
 have h4:portsOk s.a s.b=decide ((s.a=65535∧s.b=0)∨(0≤s.a∧s.a≤s.b∧s.b≤65535)):=by
  unfold portsOk
  rw [Bool.eq_iff_iff]
  simp
  omega
 rcases checkS_cases s b1 b2 b3 _ h1 h2 h3 h4 z h with h | h | h | h | h | h | ⟨q1,q2,q3,q4,q5,q6,q7,q8⟩ | ⟨q1,q2,q3,q4,q5,q6,q7,q8⟩
 ·exact Or.inl h
 ·exact Or.inr (Or.inl h)
 ·exact Or.inr (Or.inr (Or.inl h))
 ·exact Or.inr (Or.inr (Or.inr (Or.inl h)))
 ·exact Or.inr (Or.inr (Or.inr (Or.inr (Or.inl h))))
 ·exact Or.inr (Or.inr (Or.inr (Or.inr (Or.inr (Or.inl h)))))
 ·rw [decide_eq_false_iff_not] at q7
  refine Or.inr (Or.inr (Or.inr (Or.inr (Or.inr (Or.inr (Or.inr ?_))))))
  have q9:(s.a == 65535)=false∨((s.a == 65535)=true∧(s.b == 0)=false):=by
   by_cases e:s.a=65535
   ·exact Or.inr ⟨by simpa using e,by simp;omega⟩
   ·exact Or.inl (by simpa using e)
  by_cases e1:s.a<0
  ·exact Or.inl ⟨q1,q2,q3,q4,q5,q6,q9,e1,q8⟩
  by_cases e2:s.b > 65535
  ·exact Or.inr (Or.inl ⟨q1,q2,q3,q4,q5,q6,q9,e1,e2,q8⟩)
  ·exact Or.inr (Or.inr (Or.inl ⟨q1,q2,q3,q4,q5,q6,q9,e1,e2,by omega,q8⟩))
 ·rw [decide_eq_true_iff] at q7
  refine Or.inr (Or.inr (Or.inr (Or.inr (Or.inr (Or.inr ?_)))))
  by_cases e:s.a=65535∧s.b=0
  ·exact Or.inl ⟨q1,q2,q3,q4,q5,q6,by simpa using e.1,by simpa using e.2,q8⟩
  ·have q9:(s.a == 65535)=false∨((s.a == 65535)=true∧(s.b == 0)=false):=by
    by_cases e:s.a=65535
    ·exact Or.inr ⟨by simpa using e,by simp;omega⟩
    ·exact Or.inl (by simpa using e)
   exact Or.inr (Or.inr (Or.inr (Or.inr ⟨q1,q2,q3,q4,q5,q6,q9,by omega,by omega,by omega,q8⟩)))
set_option maxHeartbeats 3200000 in
theorem rscheck_at (s:Sl) (z:Int) (hz:checkS s=z) (w:World) :
  Calls Tryz.prog 58 #[(.agg #[.int .i64 s.p,.int .i64 s.a,.int .i64 s.b,.int .i64 s.lo.f,.int .u64 s.lo.h,.int .u64 s.lo.l,.int .i64 s.hi.f,.int .u64 s.hi.h,.int .u64 s.hi.l])] w fun e w'=>e=.returned (.int .i64 z)∧Below w.heap.size w w':=by
 obtain ⟨b1,h1⟩ : ∃ b,validA s.lo=b:=⟨_,rfl⟩
 obtain ⟨b2,h2⟩ : ∃ b,validA s.hi=b:=⟨_,rfl⟩
 obtain ⟨b3,h3⟩ : ∃ b,ltA s.hi s.lo=b:=⟨_,rfl⟩
 have hc:=checkR_cases s b1 b2 b3 h1 h2 h3 z hz
 have HV:=hidden (rvalid_any s.lo)
 have HU:=hidden (rvalid_any s.hi)
 have HL:=hidden (rless_any s.hi s.lo)
 rw [h1] at HV
 rw [h2] at HU
 rw [h3] at HL
 have HB:=hidden ((Below.refl w.heap.size w).alloc (Nat.le_refl _) (.cells #[.int .i64 s.p,.int .i64 s.a,.int .i64 s.b,.int .i64 s.lo.f,.int .u64 s.lo.h,.int .u64 s.lo.l,.int .i64 s.hi.f,.int .u64 s.hi.h,.int .u64 s.hi.l] 122))
 have HS:=hidden (SlIn.new w s 122)
 clear h1 h2 h3 hz
 rcases hc with ⟨rfl,rfl⟩ | ⟨rfl,rfl,rfl⟩ | ⟨rfl,rfl,k1,rfl⟩ | ⟨rfl,rfl,k1,rfl,rfl⟩ | ⟨rfl,rfl,k1,rfl,k2,rfl⟩ | ⟨rfl,rfl,k1,rfl,k2,k3,rfl⟩ | ⟨rfl,rfl,k1,rfl,k2,k3,k4,k5,rfl⟩ | ⟨rfl,rfl,k1,rfl,k2,k3,k4 | ⟨k4,k8⟩,k5,rfl⟩ | ⟨rfl,rfl,k1,rfl,k2,k3,k4 | ⟨k4,k8⟩,k5,k6,rfl⟩ | ⟨rfl,rfl,k1,rfl,k2,k3,k4 | ⟨k4,k8⟩,k5,k6,k7,rfl⟩ | ⟨rfl,rfl,k1,rfl,k2,k3,k4 | ⟨k4,k8⟩,k5,k6,k7,rfl⟩
 all_goals
  go_enter Tryz.func58,Tryz.ntmps58
  go_wp2_with (first
   | (go_at_call 75;(first | (with_reducible refine (HV.out _).mono ?_) | (with_reducible refine (HU.out _).mono ?_));rintro e w1 ⟨rfl,hb⟩;replace HB:=hidden (HB.out.trans (hb.mono HB.out.size));replace HS:=hidden (HS.out.below hb);clear hb;(try clear c0 c1 c2 c3 c4 c5 c6 c7 c8 fr);obtain ⟨c0,c1,c2,c3,c4,c5,c6,c7,c8,fr⟩:=HS.out)
   | (go_at_call 76;(with_reducible refine (HL.out _).mono ?_);rintro e w1 ⟨rfl,hb⟩;replace HB:=hidden (HB.out.trans (hb.mono HB.out.size));replace HS:=hidden (HS.out.below hb);clear hb;clear c0 c1 c2 c3 c4 c5 c6 c7 c8 fr;obtain ⟨c0,c1,c2,c3,c4,c5,c6,c7,c8,fr⟩:=HS.out))
  go_ret
  exact ⟨rfl,HB.out⟩
end Go.Proofs.YtgpigjoonhghhaaGreat

namespace Go.Proofs.YtgpigjoonhghhaaGreat
open Go.RowKit
set_option linter.unusedVariables false
structure DrawA (f:Int) (x:Ad):Prop where
 fam:x.f=f
 fit:FitA x
 ok:validA x=true
structure AS (W w wx:World) (k:Nat) (x:Ad):Prop where
 cod:Cod W wx k
 gr:w.grownBy wx (some k)
 R:AdIn wx w.heap.size zeroA
 A:AdIn wx (w.heap.size+1) x
theorem AS.grown {W w wx wy:World} {k:Nat} {x:Ad} (h:AS W w wx k x) (hk:k<w.heap.size) (hc:Cod W wy k) (hg:wx.grownBy wy (some k)):AS W w wy k x :=
 ⟨hc,grown_trans h.gr hg,h.R.grown hg (by simp;omega),h.A.grown hg (by simp;omega)⟩
theorem AS.alloc {W w wx:World} {k:Nat} {x:Ad} (h:AS W w wx k x) (o:Obj):AS W w (wx.alloc o) k x :=
 ⟨h.cod.alloc o,grown_alloc_new h.gr o,h.R.alloc o,h.A.alloc o⟩
theorem AS.drew {W w wx:World} {k:Nat} {x:Ad} (h:AS W w wx k x):AS W w wx.drew k x :=
 ⟨h.cod.below (drew_below ⟨1,rfl⟩),grown_trans h.gr (grown_drewN wx 1 _),h.R.below (drew_below ⟨1,rfl⟩),h.A.below (drew_below ⟨1,rfl⟩)⟩
theorem AS.setL {W w wx:World} {k:Nat} {x:Ad} (h:AS W w wx k x) (hb:W.heap.size≤w.heap.size) (hk:k<w.heap.size) (z:Int):AS W w (wx.setCell ⟨w.heap.size+1,2,none⟩ (.int .u64 z)) k { x with l:=z } :=
 ⟨h.cod.set _ _ _ (by omega) (by omega),grown_set_new h.gr _ _ _ (by omega),h.R.set_ne _ _ _ (by omega),h.A.setL z⟩
theorem AS.setH {W w wx:World} {k:Nat} {x:Ad} (h:AS W w wx k x) (hb:W.heap.size≤w.heap.size) (hk:k<w.heap.size) (z:Int):AS W w (wx.setCell ⟨w.heap.size+1,1,none⟩ (.int .u64 z)) k { x with h:=z } :=
 ⟨h.cod.set _ _ _ (by omega) (by omega),grown_set_new h.gr _ _ _ (by omega),h.R.set_ne _ _ _ (by omega),h.A.setH z⟩
theorem AS.ret {W w wx:World} {k:Nat} {x:Ad} (h:AS W w wx k x) (hb:W.heap.size≤w.heap.size) (hk:k<w.heap.size) :
  AdIn (((wx.setCell ⟨w.heap.size,0,none⟩ (.int .i64 x.f)).setCell ⟨w.heap.size,1,none⟩ (.int .u64 x.h)).setCell ⟨w.heap.size,2,none⟩ (.int .u64 x.l)) w.heap.size x ∧
  Cod W (((wx.setCell ⟨w.heap.size,0,none⟩ (.int .i64 x.f)).setCell ⟨w.heap.size,1,none⟩ (.int .u64 x.h)).setCell ⟨w.heap.size,2,none⟩ (.int .u64 x.l)) k ∧
  w.grownBy (((wx.setCell ⟨w.heap.size,0,none⟩ (.int .i64 x.f)).setCell ⟨w.heap.size,1,none⟩ (.int .u64 x.h)).setCell ⟨w.heap.size,2,none⟩ (.int .u64 x.l)) (some k):=by
 refine ⟨?_,((h.cod.set _ _ _ (by omega) (by omega)).set _ _ _ (by omega) (by omega)).set _ _ _ (by omega) (by omega),grown_set_new (grown_set_new (grown_set_new h.gr _ _ _ (by omega)) _ _ _ (by omega)) _ _ _ (by omega)⟩
 obtain ⟨c0,c1,c2,fr⟩:=h.R
 exact ⟨by go_simp,by go_simp,by go_simp,fun j=>by rw [World.frozen?_setCell,World.frozen?_setCell,World.frozen?_setCell];exact fr j⟩
theorem row_cell (w w':World) (k:Nat) (l:List Value) (T:TypeId) (j:Nat) (u:Value) (hu:l[j]?=some u) (hk:k<w.heap.size) (hg:(w.alloc (.cells l.toArray T)).grownBy w' (some k)):w'.cell? ⟨w.heap.size,j,none⟩=some u :=
 hg.cell (by rw [World.cell?_alloc_at _ _ _ _ rfl];simpa using hu) (by simp;omega)
theorem lo4 (j:Nat) (hj:j<4) : ∃ t:Int,(#[Value.int .u64 167772160,.int .u64 3232235520,.int .u64 0,.int .u64 4294967288]:Array Value)[j]?=some (.int .u64 t)∧([Value.int .u64 167772160,.int .u64 3232235520,.int .u64 0,.int .u64 4294967288]:List Value)[j]?=some (.int .u64 t)∧0≤t∧t≤4294967288:=by
 have:j=0∨j=1∨j=2∨j=3:=by omega
 rcases this with rfl | rfl | rfl | rfl
 ·exact ⟨_,rfl,rfl,by omega,by omega⟩
 ·exact ⟨_,rfl,rfl,by omega,by omega⟩
 ·exact ⟨_,rfl,rfl,by omega,by omega⟩
 ·exact ⟨_,rfl,rfl,by omega,by omega⟩
theorem hi6 (j:Nat) (hj:j<3) : ∃ t:Int,(#[Value.int .u64 2306139568115548160,.int .u64 0,.int .u64 18446744073709551615]:Array Value)[j]?=some (.int .u64 t)∧([Value.int .u64 2306139568115548160,.int .u64 0,.int .u64 18446744073709551615]:List Value)[j]?=some (.int .u64 t)∧0≤t∧t≤18446744073709551615:=by
 have:j=0∨j=1∨j=2:=by omega
 rcases this with rfl | rfl | rfl
 ·exact ⟨_,rfl,rfl,by omega,by omega⟩
 ·exact ⟨_,rfl,rfl,by omega,by omega⟩
 ·exact ⟨_,rfl,rfl,by omega,by omega⟩
theorem lo6 (j:Nat) (hj:j<3) : ∃ t:Int,(#[Value.int .u64 0,.int .u64 18446744073709551608,.int .u64 9223372036854775808]:Array Value)[j]?=some (.int .u64 t)∧([Value.int .u64 0,.int .u64 18446744073709551608,.int .u64 9223372036854775808]:List Value)[j]?=some (.int .u64 t)∧0≤t∧t≤18446744073709551608:=by
 have:j=0∨j=1∨j=2:=by omega
 rcases this with rfl | rfl | rfl
 ·exact ⟨_,rfl,rfl,by omega,by omega⟩
 ·exact ⟨_,rfl,rfl,by omega,by omega⟩
 ·exact ⟨_,rfl,rfl,by omega,by omega⟩
def MadeA (W w:World) (k:Nat) (f:Int) (e:Ending) (w':World):Prop:=∃ x:Ad,e=.returned (.agg #[.int .i64 x.f,.int .u64 x.h,.int .u64 x.l])∧DrawA f x∧Cod W w' k∧w.grownBy w' (some k)
set_option maxHeartbeats 1600000 in
set_option maxRecDepth 100000 in
theorem addr4_any (W w:World) (k:Nat) (h:Cod W w k) :
  Calls Tryz.prog 95 #[.pointer (some ⟨k,0,none⟩),.int .i64 4] w (MadeA W w k 4):=by
 have hk:=h.lt
 have hbase:=h.bel.size
 have H0:=hidden (show AS W w ((w.alloc (.cells #[.int .i64 0,.int .u64 0,.int .u64 0] 120)).alloc (.cells #[.int .i64 4,.int .u64 0,.int .u64 0] 120)) k ⟨4,0,0⟩ from
  ⟨(h.alloc _).alloc _,grown_alloc_new (World.grownBy_alloc w _ _) _,(AdIn.new w zeroA 120).alloc _,by
   have:=AdIn.new (w.alloc (.cells #[.int .i64 0,.int .u64 0,.int .u64 0] 120)) ⟨4,0,0⟩ 120
   simpa using this⟩)
 clear h
 go_enter Tryz.func95,Tryz.ntmps95
 go_upto_region 3 with fail
 generalize hw0:(w.alloc (.cells #[.int .i64 0,.int .u64 0,.int .u64 0] 120)).alloc (.cells #[.int .i64 4,.int .u64 0,.int .u64 0] 120)=w0 at *
 clear hw0
 go_cut [] from 10 to 19 (fun wx=>∃ l:Int,0≤l∧l≤4294967295∧AS W w wx k ⟨4,0,l⟩)
 case first =>
  have HD:=hidden H0.out.drew
  have hkw:k<w0.heap.size:=H0.out.cod.lt
  have hAw:=H0.out.A.lt
  go_region_with (first
   | (go_at_call_of 10 (Value.int IntKind.i64 4);(with_reducible refine (next_any W _ k ?_ _ ?_).mono ?_);(first | exact HD.out.cod | exact HD.out.cod.alloc _ | exact (H0.out.alloc _).drew.cod);omega;rintro e wA ⟨j,rfl,j0,j1,hcA,hgA⟩;obtain ⟨j,rfl⟩:=Int.eq_ofNat_of_zero_le j0;obtain ⟨t,hta,htl,t0,t1⟩:=lo4 j (by omega);have HA1:Hid (AS W w wA k ⟨4,0,0⟩):=(by first | exact HD.out.grown hk hcA hgA | exact (HD.out.alloc _).grown hk hcA hgA | exact (H0.out.alloc _).drew.grown hk hcA hgA);obtain ⟨a0,a1,a2,af⟩:=HA1.out.A;have hAA:=HA1.out.A.lt;have hkA:k<wA.heap.size:=hcA.lt;(try have hcI:wA.cell? ⟨w0.heap.size,j,none⟩=some (.int .u64 t):=row_cell w0.drew wA k _ _ j _ htl (by simp;omega) hgA);have hzA:w0.heap.size≤wA.heap.size:=by have:=hgA.size;simp at this;omega)
   | (go_at_call_of 10 (Value.int IntKind.i64 8);(with_reducible refine (next_any W _ k ?_ _ ?_).mono ?_);(first | exact hcA | exact hcA.alloc _);omega;rintro e wD ⟨v,rfl,v0,v1,hcD,hgD⟩;have HA2:Hid (AS W w wD k ⟨4,0,0⟩):=(by first | exact HA1.out.grown hk hcD hgD | exact (HA1.out.alloc _).grown hk hcD hgD);obtain ⟨a0,a1,a2,af⟩:=HA2.out.A;have hAD:=HA2.out.A.lt;have hw1:IntKind.u64.wrap v=v:=(by rw [IntKind.wrap_u64];omega);have hw2:IntKind.u64.wrap (t+v)=t+v:=(by rw [IntKind.wrap_u64];omega);(try have hcJ:wD.cell? ⟨w0.heap.size,j,none⟩=some (.int .u64 t):=hgD.cell hcI (by simp;omega));(try have hcK:wD.cell? ⟨wA.heap.size,j,none⟩=some (.int .u64 t):=row_cell wA wD k _ _ j _ htl hkA hgD))
   | fail)
  all_goals
   clear hcA hgA hcD hgD HA1 HD
   go_wp2_with fail
   go_meet
  all_goals (case rel=>first | exact ⟨t+v,by omega,by omega,HA2.out.setL hbase hk _⟩ | exact ⟨t+v,by omega,by omega,(HA2.out.alloc _).setL hbase hk _⟩ | exact ⟨t+v,by omega,by omega,(HA2.out.setL hbase hk _).alloc _⟩)
 case rest =>
  obtain ⟨l,l0,l1,has⟩:=hcut
  have HS:=hidden has
  obtain ⟨a0,a1,a2,-⟩:=has.A
  obtain ⟨r0,r1,r2,rf⟩:=has.R
  clear has H0
  go_wp2
  obtain ⟨z1,z2,z3⟩:=HS.out.ret hbase hk
  refine ret_ad (g:=w.heap.size) (x:=⟨4,0,l⟩) rfl rfl rfl z1 ?_
  exact ⟨⟨4,0,l⟩,rfl,⟨rfl,⟨by simp,by simp,by simp;omega⟩,by simp [validA];omega⟩,z2,z3⟩
set_option maxHeartbeats 1600000 in
set_option maxRecDepth 100000 in
theorem addr6_any (W w:World) (k:Nat) (h:Cod W w k) :
  Calls Tryz.prog 95 #[.pointer (some ⟨k,0,none⟩),.int .i64 6] w (MadeA W w k 6):=by
 have hk:=h.lt
 have hbase:=h.bel.size
 have H0:=hidden (show AS W w ((w.alloc (.cells #[.int .i64 0,.int .u64 0,.int .u64 0] 120)).alloc (.cells #[.int .i64 6,.int .u64 0,.int .u64 0] 120)) k ⟨6,0,0⟩ from
  ⟨(h.alloc _).alloc _,grown_alloc_new (World.grownBy_alloc w _ _) _,(AdIn.new w zeroA 120).alloc _,by
   have:=AdIn.new (w.alloc (.cells #[.int .i64 0,.int .u64 0,.int .u64 0] 120)) ⟨6,0,0⟩ 120
   simpa using this⟩)
 clear h
 go_enter Tryz.func95,Tryz.ntmps95
 go_upto_region 6 with (go_at_call 10;(with_reducible refine (next_any W _ k ?_ _ ?_).mono ?_);exact H0.out.cod.alloc _;omega;rintro e wA ⟨j,rfl,j0,j1,hcA,hgA⟩;obtain ⟨j,rfl⟩:=Int.eq_ofNat_of_zero_le j0;obtain ⟨m,hta,htl,m0,m1⟩:=hi6 j (by omega);have HA0:Hid (AS W w wA k ⟨6,0,0⟩):=(H0.out.alloc _).grown hk hcA hgA;obtain ⟨a0,a1,a2,af⟩:=HA0.out.A;have hcI:wA.cell? ⟨w.heap.size+1+1,j,none⟩=some (.int .u64 m):=(by have:=row_cell _ wA k _ _ j _ htl H0.out.cod.lt hgA;simpa using this);clear hcA hgA H0)
 have H1:=hidden (HA0.out.setH hbase hk m)
 clear a0 a1 a2 af hcI HA0
 generalize wA.setCell ⟨w.heap.size+1,1,none⟩ (.int .u64 m)=w1 at *
 go_cut [] from 27 to 36 (fun wx=>∃ l:Int,0≤l∧l≤18446744073709551615∧AS W w wx k ⟨6,m,l⟩)
 case first =>
  have HD:=hidden H1.out.drew
  have hkw:k<w1.heap.size:=H1.out.cod.lt
  have hAw:=H1.out.A.lt
  go_region_with (first
   | (go_at_call_of 10 (Value.int IntKind.i64 3);(with_reducible refine (next_any W _ k ?_ _ ?_).mono ?_);(first | exact HD.out.cod | exact HD.out.cod.alloc _ | exact (H1.out.alloc _).drew.cod);omega;rintro e wB ⟨j,rfl,j0,j1,hcA,hgA⟩;obtain ⟨j,rfl⟩:=Int.eq_ofNat_of_zero_le j0;obtain ⟨t,hta,htl,t0,t1⟩:=lo6 j (by omega);have HA1:Hid (AS W w wB k ⟨6,m,0⟩):=(by first | exact HD.out.grown hk hcA hgA | exact (HD.out.alloc _).grown hk hcA hgA | exact (H1.out.alloc _).drew.grown hk hcA hgA);obtain ⟨a0,a1,a2,af⟩:=HA1.out.A;have hAA:=HA1.out.A.lt;have hkA:k<wB.heap.size:=hcA.lt;(try have hcI:wB.cell? ⟨w1.heap.size,j,none⟩=some (.int .u64 t):=row_cell w1.drew wB k _ _ j _ htl (by simp;omega) hgA);have hzA:w1.heap.size≤wB.heap.size:=by have:=hgA.size;simp at this;omega)
   | (go_at_call_of 10 (Value.int IntKind.i64 8);(with_reducible refine (next_any W _ k ?_ _ ?_).mono ?_);(first | exact hcA | exact hcA.alloc _);omega;rintro e wD ⟨v,rfl,v0,v1,hcD,hgD⟩;have HA2:Hid (AS W w wD k ⟨6,m,0⟩):=(by first | exact HA1.out.grown hk hcD hgD | exact (HA1.out.alloc _).grown hk hcD hgD);obtain ⟨a0,a1,a2,af⟩:=HA2.out.A;have hAD:=HA2.out.A.lt;have hw1:IntKind.u64.wrap v=v:=(by rw [IntKind.wrap_u64];omega);have hw2:IntKind.u64.wrap (t+v)=t+v:=(by rw [IntKind.wrap_u64];omega);(try have hcJ:wD.cell? ⟨w1.heap.size,j,none⟩=some (.int .u64 t):=hgD.cell hcI (by simp;omega));(try have hcK:wD.cell? ⟨wB.heap.size,j,none⟩=some (.int .u64 t):=row_cell wB wD k _ _ j _ htl hkA hgD))
   | fail)
  all_goals
   clear hcA hgA hcD hgD HA1 HD
   go_wp2_with fail
   go_meet
  all_goals (case rel=>first | exact ⟨t+v,by omega,by omega,HA2.out.setL hbase hk _⟩ | exact ⟨t+v,by omega,by omega,(HA2.out.alloc _).setL hbase hk _⟩ | exact ⟨t+v,by omega,by omega,(HA2.out.setL hbase hk _).alloc _⟩)
 case rest =>
  obtain ⟨l,l0,l1,has⟩:=hcut
  have HS:=hidden has
  obtain ⟨a0,a1,a2,-⟩:=has.A
  obtain ⟨r0,r1,r2,rf⟩:=has.R
  clear has H1
  go_wp2
  obtain ⟨z1,z2,z3⟩:=HS.out.ret hbase hk
  refine ret_ad (g:=w.heap.size) (x:=⟨6,m,l⟩) rfl rfl rfl z1 ?_
  exact ⟨⟨6,m,l⟩,rfl,⟨rfl,⟨by simp,by simp;omega,by simp;omega⟩,by simp [validA]⟩,z2,z3⟩
theorem addr_any (W w:World) (k:Nat) (h:Cod W w k) (f:Int) (hf:f=4∨f=6) :
  Calls Tryz.prog 95 #[.pointer (some ⟨k,0,none⟩),.int .i64 f] w (MadeA W w k f):=by
 rcases hf with rfl | rfl
 ·exact addr4_any W w k h
 ·exact addr6_any W w k h
end Go.Proofs.YtgpigjoonhghhaaGreat
