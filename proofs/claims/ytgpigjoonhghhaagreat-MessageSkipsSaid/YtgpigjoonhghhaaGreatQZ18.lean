/-
 What package selector's readOne returns, for any bytes.
 Package payload's Parse of the type 45, given what the reader returns.
 What an exchange needs (message.needed): a map literal from ints to slices, looked up once.
-/
import Derived.Test.YtgpigjoonhghhaaGreatQZ15
import Derived.Test.YtgpigjoonhghhaaGreatQZ9
import Derived.Test.YtgpigjoonhghhaaGreatQZ5
namespace Go.Proofs.YtgpigjoonhghhaaGreat
open Go.RowKit
set_option linter.unusedVariables false
theorem ret_sl3 {fn:Func} {R:Ending→World→Prop} {a:Act} {w:World} {p x y:Nat} {g:Nat} {s:Sl} {u v:Value} (h:fn.results=#[.cell p 122,.tmp x,.tmp y]) (hp:a.tmps.getD p undef=.pointer (some ⟨g,0,none⟩)) (hu:a.tmps.getD x undef=u) (hv:a.tmps.getD y undef=v) (hd:a.defers=[])
  (hh:SlIn w g s) (hR:R (.returned (.tuple #[(.agg #[.int .i64 s.p,.int .i64 s.a,.int .i64 s.b,.int .i64 s.lo.f,.int .u64 s.lo.h,.int .u64 s.lo.l,.int .i64 s.hi.f,.int .u64 s.hi.h,.int .u64 s.hi.l]),u,v])) w):bodyPost Tryz.prog fn R .ret a w:=by
 refine bodyPost_ret (v:=.tuple #[(.agg #[.int .i64 s.p,.int .i64 s.a,.int .i64 s.b,.int .i64 s.lo.f,.int .u64 s.lo.h,.int .u64 s.lo.l,.int .i64 s.hi.f,.int .u64 s.hi.h,.int .u64 s.hi.l]),u,v]) ?_ hd hR
 rw [Array.getD_eq_getD_getElem?] at hp hu hv
 simp [results,h,hp,hu,hv,asAddr,load_sl hh,Result.andThen]
theorem put_lohi {w:World} {B M R:Nat} {m r:Sl} (hr:SlIn w R r) (hne:R≠M) (h1:B≤M) (h2:B≤R) (z1 z2:Ad):SlIn (((((((((((((((w.setCell ⟨M,3,none⟩ (.int .i64 z1.f)).setCell ⟨M,4,none⟩ (.int .u64 z1.h)).setCell ⟨M,5,none⟩ (.int .u64 z1.l)).setCell ⟨M,6,none⟩ (.int .i64 z2.f)).setCell ⟨M,7,none⟩ (.int .u64 z2.h)).setCell ⟨M,8,none⟩ (.int .u64 z2.l)).setCell ⟨R,0,none⟩ (.int .i64 m.p)).setCell ⟨R,1,none⟩ (.int .i64 m.a)).setCell ⟨R,2,none⟩ (.int .i64 m.b)).setCell ⟨R,3,none⟩ (.int .i64 z1.f)).setCell ⟨R,4,none⟩ (.int .u64 z1.h)).setCell ⟨R,5,none⟩ (.int .u64 z1.l)).setCell ⟨R,6,none⟩ (.int .i64 z2.f)).setCell ⟨R,7,none⟩ (.int .u64 z2.h)).setCell ⟨R,8,none⟩ (.int .u64 z2.l)) R { m with lo:=z1,hi:=z2 }∧(∀ W:World,W.heap.size=B→Below B W w→Below B W (((((((((((((((w.setCell ⟨M,3,none⟩ (.int .i64 z1.f)).setCell ⟨M,4,none⟩ (.int .u64 z1.h)).setCell ⟨M,5,none⟩ (.int .u64 z1.l)).setCell ⟨M,6,none⟩ (.int .i64 z2.f)).setCell ⟨M,7,none⟩ (.int .u64 z2.h)).setCell ⟨M,8,none⟩ (.int .u64 z2.l)).setCell ⟨R,0,none⟩ (.int .i64 m.p)).setCell ⟨R,1,none⟩ (.int .i64 m.a)).setCell ⟨R,2,none⟩ (.int .i64 m.b)).setCell ⟨R,3,none⟩ (.int .i64 z1.f)).setCell ⟨R,4,none⟩ (.int .u64 z1.h)).setCell ⟨R,5,none⟩ (.int .u64 z1.l)).setCell ⟨R,6,none⟩ (.int .i64 z2.f)).setCell ⟨R,7,none⟩ (.int .u64 z2.h)).setCell ⟨R,8,none⟩ (.int .u64 z2.l))) :=
 ⟨((((((hr.set_ne _ _ _ hne).set_ne _ _ _ hne).set_ne _ _ _ hne).set_ne _ _ _ hne).set_ne _ _ _ hne).set_ne _ _ _ hne).setAll { m with lo:=z1,hi:=z2 },fun W hW hb=>(((((((((((((((hb.setCell (p:=⟨M,3,none⟩) (by simp<;>omega) _).setCell (p:=⟨M,4,none⟩) (by simp<;>omega) _).setCell (p:=⟨M,5,none⟩) (by simp<;>omega) _).setCell (p:=⟨M,6,none⟩) (by simp<;>omega) _).setCell (p:=⟨M,7,none⟩) (by simp<;>omega) _).setCell (p:=⟨M,8,none⟩) (by simp<;>omega) _).setCell (p:=⟨R,0,none⟩) (by simp<;>omega) _).setCell (p:=⟨R,1,none⟩) (by simp<;>omega) _).setCell (p:=⟨R,2,none⟩) (by simp<;>omega) _).setCell (p:=⟨R,3,none⟩) (by simp<;>omega) _).setCell (p:=⟨R,4,none⟩) (by simp<;>omega) _).setCell (p:=⟨R,5,none⟩) (by simp<;>omega) _).setCell (p:=⟨R,6,none⟩) (by simp<;>omega) _).setCell (p:=⟨R,7,none⟩) (by simp<;>omega) _).setCell (p:=⟨R,8,none⟩) (by simp<;>omega) _)⟩
def ReadS (w:World) (r:Option (Sl × Nat)) (e:Ending) (w':World):Prop:=Below w.heap.size w w'∧match r with
 | none=>e=.returned (.tuple #[(.agg #[.int .i64 zeroS.p,.int .i64 zeroS.a,.int .i64 zeroS.b,.int .i64 zeroS.lo.f,.int .u64 zeroS.lo.h,.int .u64 zeroS.lo.l,.int .i64 zeroS.hi.f,.int .u64 zeroS.hi.h,.int .u64 zeroS.hi.l]),.int .i64 0,.bool false])
 | some (s,k)=>e=.returned (.tuple #[(.agg #[.int .i64 s.p,.int .i64 s.a,.int .i64 s.b,.int .i64 s.lo.f,.int .u64 s.lo.h,.int .u64 s.lo.l,.int .i64 s.hi.f,.int .u64 s.hi.h,.int .u64 s.hi.l]),.int .i64 k,.bool true])
set_option maxHeartbeats 1600000 in
set_option maxRecDepth 100000 in
theorem readOne_any (p:Option Addr) (n c:Nat) (xs:List Int) (w:World) (h:Byt w p n c xs) (r:Option (Sl × Nat)) (hr:oneS xs=r) :
  Calls Tryz.prog 122 #[.slice p n c] w (ReadS w r):=by
 obtain ⟨K,hK⟩ : ∃ K,(numR xs 0 1).1=K:=⟨_,rfl⟩
 obtain ⟨Z,hZ⟩ : ∃ Z,(numR xs 2 2).1=Z:=⟨_,rfl⟩
 have hone:=oneS_num xs K Z hK hZ
 rw [hr,h.len] at hone
 have hn:=h.le
 have HL:=hidden h.len
 have HXX:=hidden (h.alloc (.cells #[.int .i64 0,.int .i64 0,.int .i64 0,.int .i64 0,.int .u64 0,.int .u64 0,.int .i64 0,.int .u64 0,.int .u64 0] 122))
 have HRZ:=hidden (SlIn.new w zeroS 122)
 have HBZ:=hidden ((Below.refl w.heap.size w).alloc (Nat.le_refl _) (.cells #[.int .i64 0,.int .i64 0,.int .i64 0,.int .i64 0,.int .u64 0,.int .u64 0,.int .i64 0,.int .u64 0,.int .u64 0] 122))
 have HN01:=hidden (fun w h=>snum_any p n c xs w h 0 1 (by omega) (by omega) K hK)
 have HN22:=hidden (fun w h=>snum_any p n c xs w h 2 2 (by omega) (by omega) Z hZ)
 clear hK hZ hr
 have hcs:(K=7∧Z=16∧16≤n∧r=some (⟨nAt xs 1 1,nAt xs 4 2,nAt xs 6 2,⟨4,0,nAt xs 8 4⟩,⟨4,0,nAt xs 12 4⟩⟩,16)) ∨
   (K=8∧Z=40∧40≤n∧r=some (⟨nAt xs 1 1,nAt xs 4 2,nAt xs 6 2,⟨6,nAt xs 8 8,nAt xs 16 8⟩,⟨6,nAt xs 24 8,nAt xs 32 8⟩⟩,40)) ∨
   (K=7∧Z=16∧n<16∧r=none)∨(K=8∧Z=40∧n<40∧r=none)∨(K=7∧(Z == 16)=false∧r=none)∨(K=8∧(Z == 40)=false∧r=none)∨((K == 7)=false∧(K == 8)=false∧r=none):=by
  by_cases h7:K=7
  ·by_cases h16:Z=16
   ·by_cases hn16:16≤n
    ·rw [if_pos ⟨h7,h16,hn16⟩] at hone
     exact Or.inl ⟨h7,h16,hn16,hone⟩
    ·rw [if_neg (by omega),if_neg (by omega)] at hone
     exact Or.inr (Or.inr (Or.inl ⟨h7,h16,by omega,hone⟩))
   ·rw [if_neg (by omega),if_neg (by omega)] at hone
    exact Or.inr (Or.inr (Or.inr (Or.inr (Or.inl ⟨h7,by simpa using h16,hone⟩))))
  ·by_cases h8:K=8
   ·by_cases h40:Z=40
    ·by_cases hn40:40≤n
     ·rw [if_neg (by omega),if_pos ⟨h8,h40,hn40⟩] at hone
      exact Or.inr (Or.inl ⟨h8,h40,hn40,hone⟩)
     ·rw [if_neg (by omega),if_neg (by omega)] at hone
      exact Or.inr (Or.inr (Or.inr (Or.inl ⟨h8,h40,by omega,hone⟩)))
    ·rw [if_neg (by omega),if_neg (by omega)] at hone
     exact Or.inr (Or.inr (Or.inr (Or.inr (Or.inr (Or.inl ⟨h8,by simpa using h40,hone⟩)))))
   ·rw [if_neg (by omega),if_neg (by omega)] at hone
    exact Or.inr (Or.inr (Or.inr (Or.inr (Or.inr (Or.inr ⟨by simpa using h7,by simpa using h8,hone⟩)))))
 clear hone
 rcases hcs with ⟨rfl,rfl,hN,hO⟩ | ⟨rfl,rfl,hN,hO⟩ | ⟨rfl,rfl,hN,hO⟩ | ⟨rfl,rfl,hN,hO⟩ | ⟨rfl,hN,hO⟩ | ⟨rfl,hN,hO⟩ | ⟨hN,hN2,hO⟩
 all_goals have HO:=hidden hO
 all_goals clear hO
 ·have HM0:Hid (SlIn ((w.alloc (.cells #[.int .i64 0,.int .i64 0,.int .i64 0,.int .i64 0,.int .u64 0,.int .u64 0,.int .i64 0,.int .u64 0,.int .u64 0] 122)).alloc (.cells #[.int .i64 (nAt xs 1 1),.int .i64 (nAt xs 4 2),.int .i64 (nAt xs 6 2),.int .i64 0,.int .u64 0,.int .u64 0,.int .i64 0,.int .u64 0,.int .u64 0] 122)) (w.heap.size+1) ⟨nAt xs 1 1,nAt xs 4 2,nAt xs 6 2,zeroA,zeroA⟩):=hidden (by
   have:=SlIn.new (w.alloc (.cells #[.int .i64 0,.int .i64 0,.int .i64 0,.int .i64 0,.int .u64 0,.int .u64 0,.int .i64 0,.int .u64 0,.int .u64 0] 122)) ⟨nAt xs 1 1,nAt xs 4 2,nAt xs 6 2,zeroA,zeroA⟩ 122
   simpa [zeroA] using this)
  have HR0:=hidden ((SlIn.new w zeroS 122).alloc (.cells #[.int .i64 (nAt xs 1 1),.int .i64 (nAt xs 4 2),.int .i64 (nAt xs 6 2),.int .i64 0,.int .u64 0,.int .u64 0,.int .i64 0,.int .u64 0,.int .u64 0] 122))
  have HB0:=hidden (below_two (w:=w) (.cells #[.int .i64 0,.int .i64 0,.int .i64 0,.int .i64 0,.int .u64 0,.int .u64 0,.int .i64 0,.int .u64 0,.int .u64 0] 122) (.cells #[.int .i64 (nAt xs 1 1),.int .i64 (nAt xs 4 2),.int .i64 (nAt xs 6 2),.int .i64 0,.int .u64 0,.int .u64 0,.int .i64 0,.int .u64 0,.int .u64 0] 122))
  have HS1X:=hidden (HXX.out.alloc (.cells #[.int .i64 (nAt xs 1 1),.int .i64 (nAt xs 4 2),.int .i64 (nAt xs 6 2),.int .i64 0,.int .u64 0,.int .u64 0,.int .i64 0,.int .u64 0,.int .u64 0] 122))
  have HN11:=hidden (fun w h=>snum_any p n c xs w h 1 1 (by omega) (by omega) (nAt xs 1 1) (by have:=numR_in xs 1 1 (by omega) (by omega) (by rw [HL.out];omega);rw [show ((1:Nat):Int)=1 from rfl] at this;rw [this]))
  have HN42:=hidden (fun w h=>snum_any p n c xs w h 4 2 (by omega) (by omega) (nAt xs 4 2) (by have:=numR_in xs 4 2 (by omega) (by omega) (by rw [HL.out];omega);rw [show ((4:Nat):Int)=4 from rfl,show ((2:Nat):Int)=2 from rfl] at this;rw [this]))
  have HN62:=hidden (fun w h=>snum_any p n c xs w h 6 2 (by omega) (by omega) (nAt xs 6 2) (by have:=numR_in xs 6 2 (by omega) (by omega) (by rw [HL.out];omega);rw [show ((6:Nat):Int)=6 from rfl,show ((2:Nat):Int)=2 from rfl] at this;rw [this]))
  clear h
  go_enter Tryz.func122,Tryz.ntmps122
  go_wp2_with (first
   | (go_at_call 130;(with_reducible refine (HN01.out _ HXX.out).mono ?_);rintro e w' ⟨rfl,rfl⟩)
   | (go_at_call 130;(with_reducible refine (HN22.out _ HXX.out).mono ?_);rintro e w' ⟨rfl,rfl⟩)
   | (go_at_call 130;(with_reducible refine (HN11.out _ HXX.out).mono ?_);rintro e w' ⟨rfl,rfl⟩)
   | (go_at_call 130;(with_reducible refine (HN42.out _ HXX.out).mono ?_);rintro e w' ⟨rfl,rfl⟩)
   | (go_at_call 130;(with_reducible refine (HN62.out _ HXX.out).mono ?_);rintro e w' ⟨rfl,rfl⟩)
   | (go_at_call 131;(with_reducible refine (read4_any p n c xs _ HS1X.out 8 8 rfl (by omega)).mono ?_);rintro e w1 ⟨rfl,hb⟩;have HM1:=hidden (HM0.out.below hb);have HR1:=hidden (HR0.out.below hb);have HX1:=hidden (HS1X.out.below hb);have HB1:=hidden (HB0.out.trans (hb.mono HB0.out.size));clear hb)
   | (go_at_call 131;(with_reducible refine (read4_any p n c xs _ HX1.out 12 12 rfl (by omega)).mono ?_);rintro e w2 ⟨rfl,hb⟩;have HM2:=hidden (HM1.out.below hb);have HR2:=hidden (HR1.out.below hb);have HB2:=hidden (HB1.out.trans (hb.mono HB1.out.size));obtain ⟨m0,m1,m2,m3,m4,m5,m6,m7,m8,mf⟩:=HM2.out;obtain ⟨r0,r1,r2,r3,r4,r5,r6,r7,r8,rf⟩:=HR2.out;clear hb)
   | fail)
  obtain ⟨z1,z2⟩:=put_lohi (B:=w.heap.size) (m:=⟨nAt xs 1 1,nAt xs 4 2,nAt xs 6 2,zeroA,zeroA⟩) HR2.out (show w.heap.size≠w.heap.size+1 by omega) (by omega) (Nat.le_refl _) ⟨4,0,nAt xs 8 4⟩ ⟨4,0,nAt xs 12 4⟩
  refine ret_sl3 (g:=w.heap.size) (s:=⟨nAt xs 1 1,nAt xs 4 2,nAt xs 6 2,⟨4,0,nAt xs 8 4⟩,⟨4,0,nAt xs 12 4⟩⟩) (u:=.int .i64 16) (v:=.bool true) rfl rfl rfl rfl rfl z1 ?_
  refine ⟨z2 w rfl HB2.out,?_⟩
  rw [HO.out]
  rfl
 ·have HM0:Hid (SlIn ((w.alloc (.cells #[.int .i64 0,.int .i64 0,.int .i64 0,.int .i64 0,.int .u64 0,.int .u64 0,.int .i64 0,.int .u64 0,.int .u64 0] 122)).alloc (.cells #[.int .i64 (nAt xs 1 1),.int .i64 (nAt xs 4 2),.int .i64 (nAt xs 6 2),.int .i64 0,.int .u64 0,.int .u64 0,.int .i64 0,.int .u64 0,.int .u64 0] 122)) (w.heap.size+1) ⟨nAt xs 1 1,nAt xs 4 2,nAt xs 6 2,zeroA,zeroA⟩):=hidden (by
   have:=SlIn.new (w.alloc (.cells #[.int .i64 0,.int .i64 0,.int .i64 0,.int .i64 0,.int .u64 0,.int .u64 0,.int .i64 0,.int .u64 0,.int .u64 0] 122)) ⟨nAt xs 1 1,nAt xs 4 2,nAt xs 6 2,zeroA,zeroA⟩ 122
   simpa [zeroA] using this)
  have HR0:=hidden ((SlIn.new w zeroS 122).alloc (.cells #[.int .i64 (nAt xs 1 1),.int .i64 (nAt xs 4 2),.int .i64 (nAt xs 6 2),.int .i64 0,.int .u64 0,.int .u64 0,.int .i64 0,.int .u64 0,.int .u64 0] 122))
  have HB0:=hidden (below_two (w:=w) (.cells #[.int .i64 0,.int .i64 0,.int .i64 0,.int .i64 0,.int .u64 0,.int .u64 0,.int .i64 0,.int .u64 0,.int .u64 0] 122) (.cells #[.int .i64 (nAt xs 1 1),.int .i64 (nAt xs 4 2),.int .i64 (nAt xs 6 2),.int .i64 0,.int .u64 0,.int .u64 0,.int .i64 0,.int .u64 0,.int .u64 0] 122))
  have HS1X:=hidden (HXX.out.alloc (.cells #[.int .i64 (nAt xs 1 1),.int .i64 (nAt xs 4 2),.int .i64 (nAt xs 6 2),.int .i64 0,.int .u64 0,.int .u64 0,.int .i64 0,.int .u64 0,.int .u64 0] 122))
  have HN11:=hidden (fun w h=>snum_any p n c xs w h 1 1 (by omega) (by omega) (nAt xs 1 1) (by have:=numR_in xs 1 1 (by omega) (by omega) (by rw [HL.out];omega);rw [show ((1:Nat):Int)=1 from rfl] at this;rw [this]))
  have HN42:=hidden (fun w h=>snum_any p n c xs w h 4 2 (by omega) (by omega) (nAt xs 4 2) (by have:=numR_in xs 4 2 (by omega) (by omega) (by rw [HL.out];omega);rw [show ((4:Nat):Int)=4 from rfl,show ((2:Nat):Int)=2 from rfl] at this;rw [this]))
  have HN62:=hidden (fun w h=>snum_any p n c xs w h 6 2 (by omega) (by omega) (nAt xs 6 2) (by have:=numR_in xs 6 2 (by omega) (by omega) (by rw [HL.out];omega);rw [show ((6:Nat):Int)=6 from rfl,show ((2:Nat):Int)=2 from rfl] at this;rw [this]))
  clear h
  go_enter Tryz.func122,Tryz.ntmps122
  go_wp2_with (first
   | (go_at_call 130;(with_reducible refine (HN01.out _ HXX.out).mono ?_);rintro e w' ⟨rfl,rfl⟩)
   | (go_at_call 130;(with_reducible refine (HN22.out _ HXX.out).mono ?_);rintro e w' ⟨rfl,rfl⟩)
   | (go_at_call 130;(with_reducible refine (HN11.out _ HXX.out).mono ?_);rintro e w' ⟨rfl,rfl⟩)
   | (go_at_call 130;(with_reducible refine (HN42.out _ HXX.out).mono ?_);rintro e w' ⟨rfl,rfl⟩)
   | (go_at_call 130;(with_reducible refine (HN62.out _ HXX.out).mono ?_);rintro e w' ⟨rfl,rfl⟩)
   | (go_at_call 132;(with_reducible refine (read6_any p n c xs _ HS1X.out 8 8 rfl (by omega)).mono ?_);rintro e w1 ⟨rfl,hb⟩;have HM1:=hidden (HM0.out.below hb);have HR1:=hidden (HR0.out.below hb);have HX1:=hidden (HS1X.out.below hb);have HB1:=hidden (HB0.out.trans (hb.mono HB0.out.size));clear hb)
   | (go_at_call 132;(with_reducible refine (read6_any p n c xs _ HX1.out 24 24 rfl (by omega)).mono ?_);rintro e w2 ⟨rfl,hb⟩;have HM2:=hidden (HM1.out.below hb);have HR2:=hidden (HR1.out.below hb);have HB2:=hidden (HB1.out.trans (hb.mono HB1.out.size));obtain ⟨m0,m1,m2,m3,m4,m5,m6,m7,m8,mf⟩:=HM2.out;obtain ⟨r0,r1,r2,r3,r4,r5,r6,r7,r8,rf⟩:=HR2.out;clear hb)
   | fail)
  obtain ⟨z1,z2⟩:=put_lohi (B:=w.heap.size) (m:=⟨nAt xs 1 1,nAt xs 4 2,nAt xs 6 2,zeroA,zeroA⟩) HR2.out (show w.heap.size≠w.heap.size+1 by omega) (by omega) (Nat.le_refl _) ⟨6,nAt xs 8 8,nAt xs 16 8⟩ ⟨6,nAt xs 24 8,nAt xs 32 8⟩
  refine ret_sl3 (g:=w.heap.size) (s:=⟨nAt xs 1 1,nAt xs 4 2,nAt xs 6 2,⟨6,nAt xs 8 8,nAt xs 16 8⟩,⟨6,nAt xs 24 8,nAt xs 32 8⟩⟩) (u:=.int .i64 40) (v:=.bool true) rfl rfl rfl rfl rfl z1 ?_
  refine ⟨z2 w rfl HB2.out,?_⟩
  rw [HO.out]
  rfl
 all_goals
  obtain ⟨r0,r1,r2,r3,r4,r5,r6,r7,r8,rf⟩:=HRZ.out
  clear h
  go_enter Tryz.func122,Tryz.ntmps122
  go_wp2_with (first
   | (go_at_call 130;(with_reducible refine (HN01.out _ HXX.out).mono ?_);rintro e w' ⟨rfl,rfl⟩)
   | (go_at_call 130;(with_reducible refine (HN22.out _ HXX.out).mono ?_);rintro e w' ⟨rfl,rfl⟩)
   | fail)
  refine ret_sl3 (g:=w.heap.size) (s:=zeroS) (u:=.int .i64 0) (v:=.bool false) rfl rfl rfl rfl rfl HRZ.out ?_
  refine ⟨HBZ.out,?_⟩
  rw [HO.out]
end Go.Proofs.YtgpigjoonhghhaaGreat

namespace Go.Proofs.YtgpigjoonhghhaaGreat
open Go.RowKit
set_option linter.unusedVariables false
theorem reader_45 (p:Option Addr) (n c:Nat) (w:World) :
  Calls Tryz.prog 66 #[.slice p n c,.int .i64 45] w fun e w'=>e=.returned (.func (.func 89) #[.slice p n c] #[])∧w=w':=by
 go_enter Tryz.func66,Tryz.ntmps66
 go_wp2
 go_ret
 exact ⟨rfl,rfl⟩
set_option maxHeartbeats 1600000 in
set_option maxRecDepth 100000 in
theorem pparse_45 (p:Option Addr) (n c:Nat) (xs:List Int) (cr:Bool) (E:Int) (G:Gd) (w:World) (h:Byt w p n c xs) (HRD : ∀ w,Byt w p n c xs→Calls Tryz.prog 89 #[.slice p n c] w (ReadPv w E (fun w' x=>G.ok w.heap.size w' x))) :
  Calls Tryz.prog 50 #[.agg #[.int .i64 45,.bool cr,.slice p n c]] w (ParsedV w 45 E G):=by
 have HX:=hidden ((h.alloc (.cells #[.int .i64 45,.bool cr,.slice p n c] 51)).alloc (.cells #[.int .i64 0,.slice none 0 0,.int .i64 0,.slice none 0 0,.int .i64 0,.slice none 0 0,.int .i64 0,.slice none 0 0,.int .i64 0,.slice none 0 0,.int .i64 0,.slice none 0 0,.int .i64 0,.slice none 0 0,.slice none 0 0,.slice none 0 0] 49))
 have HB:=hidden (((Below.refl w.heap.size w).alloc (Nat.le_refl _) (.cells #[.int .i64 45,.bool cr,.slice p n c] 51)).alloc (by simp) (.cells #[.int .i64 0,.slice none 0 0,.int .i64 0,.slice none 0 0,.int .i64 0,.slice none 0 0,.int .i64 0,.slice none 0 0,.int .i64 0,.slice none 0 0,.int .i64 0,.slice none 0 0,.int .i64 0,.slice none 0 0,.slice none 0 0,.slice none 0 0] 49))
 have HZ:Hid (PvIn ((w.alloc (.cells #[.int .i64 45,.bool cr,.slice p n c] 51)).alloc (.cells #[.int .i64 0,.slice none 0 0,.int .i64 0,.slice none 0 0,.int .i64 0,.slice none 0 0,.int .i64 0,.slice none 0 0,.int .i64 0,.slice none 0 0,.int .i64 0,.slice none 0 0,.int .i64 0,.slice none 0 0,.slice none 0 0,.slice none 0 0] 49)) (w.heap.size+1) zeroP):=hidden (by
  have:=PvIn.new (w.alloc (.cells #[.int .i64 45,.bool cr,.slice p n c] 51)) zeroP 49
  simpa [zeroP,nilV] using this)
 have HW0:=hidden (show ((w.alloc (.cells #[.int .i64 45,.bool cr,.slice p n c] 51)).alloc (.cells #[.int .i64 0,.slice none 0 0,.int .i64 0,.slice none 0 0,.int .i64 0,.slice none 0 0,.int .i64 0,.slice none 0 0,.int .i64 0,.slice none 0 0,.int .i64 0,.slice none 0 0,.int .i64 0,.slice none 0 0,.slice none 0 0,.slice none 0 0] 49)).cell? ⟨w.heap.size,0,none⟩=some (.int .i64 45) by go_simp)
 have HSZ:=hidden (show ((w.alloc (.cells #[.int .i64 45,.bool cr,.slice p n c] 51)).alloc (.cells #[.int .i64 0,.slice none 0 0,.int .i64 0,.slice none 0 0,.int .i64 0,.slice none 0 0,.int .i64 0,.slice none 0 0,.int .i64 0,.slice none 0 0,.int .i64 0,.slice none 0 0,.int .i64 0,.slice none 0 0,.slice none 0 0,.slice none 0 0] 49)).heap.size=w.heap.size+1+1 by simp)
 have HR:=hidden HRD
 clear h HRD
 go_enter Tryz.func50,Tryz.ntmps50
 go_upto_region 3 with (first
  | (go_at_call 66;(with_reducible refine (reader_45 _ _ _ _).mono ?_);rintro e w' ⟨rfl,rfl⟩)
  | (go_at_call 89;(with_reducible refine (HR.out _ HX.out).mono ?_);rintro e w2 ⟨x,rfl,hb2,hgood⟩;have HBA:=hidden (HB.out.trans (hb2.mono HB.out.size));have HZA:=hidden (HZ.out.below hb2);have HGO:=hidden hgood;have HDA:=hidden (cell_below hb2 _ _ HW0.out);have d0:=cell_below ((Below.refl _ w2).alloc (Nat.le_refl _) (.cells #[.int .i64 x.t,.slice x.pr.p x.pr.n x.pr.c,.int .i64 x.eg,.slice x.ed.p x.ed.n x.ed.c,.int .i64 x.ik,.slice x.id.p x.id.n x.id.c,.int .i64 x.am,.slice x.ad.p x.ad.n x.ad.c,.int .i64 x.np,.slice x.ns.p x.ns.n x.ns.c,.int .i64 x.nt,.slice x.nd.p x.nd.n x.nd.c,.int .i64 x.dp,.slice x.ds.p x.ds.n x.ds.c,.slice x.se.p x.se.n x.se.c,.slice x.da.p x.da.n x.da.c] 49)) _ _ HDA.out;have HSB:=hidden hb2.size;clear hb2 hgood)
  | fail)
 have hsb:=HSB.out
 rw [HSZ.out] at hsb
 have hne1:¬ w2.heap.size=w.heap.size+1:=by omega
 have hne2:¬ w.heap.size+1=w2.heap.size:=by omega
 by_cases hE:E=0
 ·subst hE
  have hk3:=PvIn.new w2 { x with t:=45 } 49
  have hz3:=HZA.out.alloc (.cells #[.int .i64 45,.slice x.pr.p x.pr.n x.pr.c,.int .i64 x.eg,.slice x.ed.p x.ed.n x.ed.c,.int .i64 x.ik,.slice x.id.p x.id.n x.id.c,.int .i64 x.am,.slice x.ad.p x.ad.n x.ad.c,.int .i64 x.np,.slice x.ns.p x.ns.n x.ns.c,.int .i64 x.nt,.slice x.nd.p x.nd.n x.nd.c,.int .i64 x.dp,.slice x.ds.p x.ds.n x.ds.c,.slice x.se.p x.se.n x.se.c,.slice x.da.p x.da.n x.da.c] 49)
  have hb3:=HBA.out.alloc HBA.out.size (.cells #[.int .i64 45,.slice x.pr.p x.pr.n x.pr.c,.int .i64 x.eg,.slice x.ed.p x.ed.n x.ed.c,.int .i64 x.ik,.slice x.id.p x.id.n x.id.c,.int .i64 x.am,.slice x.ad.p x.ad.n x.ad.c,.int .i64 x.np,.slice x.ns.p x.ns.n x.ns.c,.int .i64 x.nt,.slice x.nd.p x.nd.n x.nd.c,.int .i64 x.dp,.slice x.ds.p x.ds.n x.ds.c,.slice x.se.p x.se.n x.se.c,.slice x.da.p x.da.n x.da.c] 49)
  have hg3:=G.keep (HGO.out rfl) (fun a v ha hc=>cell_below ((Below.refl _ w2).alloc (Nat.le_refl _) (.cells #[.int .i64 45,.slice x.pr.p x.pr.n x.pr.c,.int .i64 x.eg,.slice x.ed.p x.ed.n x.ed.c,.int .i64 x.ik,.slice x.id.p x.id.n x.id.c,.int .i64 x.am,.slice x.ad.p x.ad.n x.ad.c,.int .i64 x.np,.slice x.ns.p x.ns.n x.ns.c,.int .i64 x.nt,.slice x.nd.p x.nd.n x.nd.c,.int .i64 x.dp,.slice x.ds.p x.ds.n x.ds.c,.slice x.se.p x.se.n x.se.c,.slice x.da.p x.da.n x.da.c] 49)) _ _ hc)
  simp only at hk3 hz3 hb3 hg3
  have HK3:=hidden hk3
  have HZ3:=hidden hz3
  have HB3:=hidden hb3
  have HG3:=hidden hg3
  clear hk3 hz3 hb3 hg3 HGO HZA HBA
  go_upto_region 6 with fail
  clear d0
  generalize hw3:w2.alloc (.cells #[.int .i64 45,.slice x.pr.p x.pr.n x.pr.c,.int .i64 x.eg,.slice x.ed.p x.ed.n x.ed.c,.int .i64 x.ik,.slice x.id.p x.id.n x.id.c,.int .i64 x.am,.slice x.ad.p x.ad.n x.ad.c,.int .i64 x.np,.slice x.ns.p x.ns.n x.ns.c,.int .i64 x.nt,.slice x.nd.p x.nd.n x.nd.c,.int .i64 x.dp,.slice x.ds.p x.ds.n x.ds.c,.slice x.se.p x.se.n x.se.c,.slice x.da.p x.da.n x.da.c] 49)=w3 at *
  generalize w2.heap.size=g5 at *
  clear hw3
  obtain ⟨k0,k1,k2,k3,k4,k5,k6,k7,k8,k9,k10,k11,k12,k13,k14,k15,kfr⟩:=HK3.out
  obtain ⟨y0,y1,y2,y3,y4,y5,y6,y7,y8,y9,y10,y11,y12,y13,y14,y15,z0,z1,z2,z3,z4,z5,z6,z7,z8,z9,z10,z11,z12,z13,z14,z15,zf⟩:=HZ3.out.any
  have hz:=stored_pv HZ3.out HB3.out (by omega) { x with t:=45 }
  have hgd:=(G.ty 45 (G.keep HG3.out (fun a v ha hc=>(setPv_grown w3 (w.heap.size+1) { x with t:=45 }).cell hc (by rw [HSZ.out] at ha;simp;omega))))
  simp only [setPv] at hz hgd
  have HZZ:=hidden hz
  have HGG:=hidden (G.mono hgd (by rw [HSZ.out];omega:w.heap.size≤_))
  clear hz hgd
  go_wp2
  exact ret_pv (g:=w.heap.size+1) rfl rfl rfl rfl HZZ.out.1 ⟨_,rfl,HZZ.out.2,Or.inl ⟨rfl,rfl,HGG.out⟩⟩
 ·have hE':(E != 0)=true:=by simpa using hE
  have HE:=hidden hE
  clear hE HGO
  have HZ2:=hidden (HZA.out.alloc (.cells #[.int .i64 x.t,.slice x.pr.p x.pr.n x.pr.c,.int .i64 x.eg,.slice x.ed.p x.ed.n x.ed.c,.int .i64 x.ik,.slice x.id.p x.id.n x.id.c,.int .i64 x.am,.slice x.ad.p x.ad.n x.ad.c,.int .i64 x.np,.slice x.ns.p x.ns.n x.ns.c,.int .i64 x.nt,.slice x.nd.p x.nd.n x.nd.c,.int .i64 x.dp,.slice x.ds.p x.ds.n x.ds.c,.slice x.se.p x.se.n x.se.c,.slice x.da.p x.da.n x.da.c] 49))
  have HB2:=hidden (HBA.out.alloc HBA.out.size (.cells #[.int .i64 x.t,.slice x.pr.p x.pr.n x.pr.c,.int .i64 x.eg,.slice x.ed.p x.ed.n x.ed.c,.int .i64 x.ik,.slice x.id.p x.id.n x.id.c,.int .i64 x.am,.slice x.ad.p x.ad.n x.ad.c,.int .i64 x.np,.slice x.ns.p x.ns.n x.ns.c,.int .i64 x.nt,.slice x.nd.p x.nd.n x.nd.c,.int .i64 x.dp,.slice x.ds.p x.ds.n x.ds.c,.slice x.se.p x.se.n x.se.c,.slice x.da.p x.da.n x.da.c] 49))
  clear HZA HBA
  generalize hw3:w2.alloc (.cells #[.int .i64 x.t,.slice x.pr.p x.pr.n x.pr.c,.int .i64 x.eg,.slice x.ed.p x.ed.n x.ed.c,.int .i64 x.ik,.slice x.id.p x.id.n x.id.c,.int .i64 x.am,.slice x.ad.p x.ad.n x.ad.c,.int .i64 x.np,.slice x.ns.p x.ns.n x.ns.c,.int .i64 x.nt,.slice x.nd.p x.nd.n x.nd.c,.int .i64 x.dp,.slice x.ds.p x.ds.n x.ds.c,.slice x.se.p x.se.n x.se.c,.slice x.da.p x.da.n x.da.c] 49)=w3 at *
  obtain ⟨y0,y1,y2,y3,y4,y5,y6,y7,y8,y9,y10,y11,y12,y13,y14,y15,z0,z1,z2,z3,z4,z5,z6,z7,z8,z9,z10,z11,z12,z13,z14,z15,zf⟩:=HZ2.out.any
  have hz:=stored_pv HZ2.out HB2.out (by omega) zeroP
  simp only [setPv,zeroP,nilV] at hz
  have HZZ:=hidden hz
  clear hz hw3
  go_wp2
  exact ret_pv (g:=w.heap.size+1) rfl rfl rfl rfl HZZ.out.1 ⟨zeroP,rfl,HZZ.out.2,Or.inr ⟨HE.out,rfl⟩⟩
end Go.Proofs.YtgpigjoonhghhaaGreat

namespace Go.Proofs.YtgpigjoonhghhaaGreat
open Go.RowKit
open Go.Maps (Keyed IsMap)
set_option linter.unusedVariables false
set_option maxRecDepth 100000
def IntsAt (w:World) (v:Value) (l:List Int):Prop:=∃ (p:Option Addr) (n c:Nat),v=.slice p n c∧n=l.length∧n≤1000∧(0<n→∃ g,p=some ⟨g,0,none⟩∧∀ i u,l[i]?=some u→w.cell? ⟨g,i,none⟩=some (.int .i64 u))
theorem IntsAt.keep {w w':World} {v:Value} {l:List Int} (h:IntsAt w v l) (hk : ∀ a v,w.cell? a=some v→w'.cell? a=some v):IntsAt w' v l:=by
 obtain ⟨p,n,c,e,hn,hm,hc⟩:=h
 refine ⟨p,n,c,e,hn,hm,fun h0=>?_⟩
 obtain ⟨g,eg,hc⟩:=hc h0
 exact ⟨g,eg,fun i u hu=>hk _ _ (hc i u hu)⟩
theorem IntsAt.below {w w':World} {v:Value} {l:List Int} (h:IntsAt w v l) (hb:Below w.heap.size w w'):IntsAt w' v l:=h.keep (cell_below hb)
theorem IntsAt.nil (w:World):IntsAt w (.slice none 0 0) []:=⟨none,0,0,rfl,rfl,by omega,fun h=>by omega⟩
theorem IntsAt.new (w:World) (l:List Int) (T:TypeId) (c:Nat) (hl:l.length≤1000):IntsAt (w.alloc (.cells (l.map (Value.int .i64)).toArray T)) (.slice (some ⟨w.heap.size,0,none⟩) l.length c) l :=
 ⟨_,_,_,rfl,rfl,hl,fun _=>⟨_,rfl,fun i u hu=>by
  rw [World.cell?_alloc_at _ _ _ _ rfl]
  simp [hu]⟩⟩
theorem IntsAt.map {w w':World} {v:Value} {l:List Int} {b:Nat} {es:Array MapEntry} {k:Nat} (h:IntsAt w v l) (hm:w.heap[b]?=some (.map es k)) (hg:w.grownBy w' (some b)):IntsAt w' v l :=
 h.keep fun a u hc=>hg.cell hc (by
  intro e
  injection e with e
  simp only [World.cell?] at hc
  rw [e,hm] at hc
  simp at hc)
def readS (v:Value):Option (DataW Value × List MemPlace):=some (.held v,[])
def nilS:Value:=.slice none 0 0
def Tab (w:World) (b N:Nat) (f:Int→Value):Prop:=∃ (D:DataW Value),w.ownsMap Tryz.prog 3 readS b N D∧IsMap D∧∀ t,IntR t→D.atKey (.int .i64 t) (.held nilS)=.held (f t)
theorem Tab.made (w:World):Tab (w.alloc (.map #[] 0)) w.heap.size 0 (fun _=>nilS):=⟨_,World.ownsMap_made _ _ _ _,⟨[],rfl⟩,fun t h=>by simp [DataW.atKey]⟩
theorem Tab.grown {w w':World} {b N:Nat} {f:Int→Value} {row:Option Nat} (h:Tab w b N f) (hg:w.grownBy w' row) (hne:some b≠row):Tab w' b N f:=by
 obtain ⟨D,h1,h2⟩:=h
 exact ⟨D,h1.kept hg hne,h2⟩
theorem Tab.alloc {w:World} {b N:Nat} {f:Int→Value} (h:Tab w b N f) (o:Obj):Tab (w.alloc o) b N f:=h.grown (row:=none) (grown_of_below ((Below.refl w.heap.size w).alloc (Nat.le_refl _) o) none) (by simp)
theorem Tab.isMap {w:World} {b N:Nat} {f:Int→Value} (h:Tab w b N f) : ∃ es k,w.heap[b]?=some (.map es k):=by
 obtain ⟨D,⟨es,k,h,_⟩,_⟩:=h
 exact ⟨es,k,h⟩
theorem Tryz.zeroInts (w:World):(zeroValue 68).run Tryz.prog w=.ok nilS w:=by kernel_rfl
theorem Tab.look {w:World} {b N:Nat} {f:Int→Value} (h:Tab w b N f) (t:Int) (hi:IntR t) :
  (Instr.lookup 142 (.map (some b)) (.int .i64 t) false).run Tryz.prog w=.ok (f t) w:=by
 obtain ⟨D,h1,hm,h2⟩:=h
 obtain ⟨v,ps,hrun,hv⟩:=h1.lookup lawInt Tryz.underlying142 (Tryz.zeroInts w) (zd:=.held nilS) (zp:=[]) rfl (key_int t hi)
 rw [h2 t hi] at hv
 unfold readS at hv
 simp at hv
 rw [←hv.1]
 exact hrun
theorem wpList_tab (w:World) {ops:Array Oper} {rest:List Oper} {o:Oper} {a:Act} {Q:Exit→Act→World→Prop} (hg:o.guard=none) (m x v:Operand) (hop:o.op=Op.insert 142 m x v)
  (b N:Nat) (f:Int→Value) (h:Tab w b N f) (hN:N≤900) (hm:a.eval m=.map (some b)) (t:Int) (hx:a.eval x=.int .i64 t) (u:Value) (hv:a.eval v=u) (hi:IntR t)
  (hK : ∀ w',Tab w' b (N+1) (fun z=>if z=t then u else f z)→w.grownBy w' (some b)→wpList Tryz.prog ops Q rest (a.put o.dst undef) w'):wpList Tryz.prog ops Q (o :: rest) a w:=by
 obtain ⟨D,h1,hmp,h2⟩:=h
 refine wpList_plain hg fun K' hK'=>?_
 obtain ⟨w',hrun,r1,r2⟩:=h1.update lawInt Tryz.underlying142 (by unfold maxLen;omega) (key_int t hi) (val:=u) (d:=.held u) (ps:=[]) rfl
 unfold Oper.wp
 simp [execOp,hop,hm,hx,hv,hrun,Result.andThen]
 refine hK' _ _ (hK w' ⟨_,r1,hmp.put _ _,fun z hz=>?_⟩ r2)
 ·by_cases he:z=t
  ·subst he
   rw [Maps.atKey_put_same hmp (lawInt.key (key_int z hz))]
   simp
  ·have hne:(Lit.int .i64 z:Lit)≠.int .i64 t:=by
    intro e
    injection e with _ e
    exact he e
   rw [Maps.atKey_put_other hne,h2 z hz]
   simp [he]
structure Lts (w wx:World) (b N:Nat) (g:Int→Value) (x:Int) (I:List (Value × List Int)):Prop where
 tab:Tab wx b N g
 bel:Below w.heap.size w wx
 cx:wx.cell? ⟨w.heap.size,3,none⟩=some (.int .i64 x)
 lt:w.heap.size<b
 its : ∀ p∈I,IntsAt wx p.1 p.2
theorem Lts.step {w wx:World} {b N:Nat} {g:Int→Value} {x:Int} {I:List (Value × List Int)} (h:Lts w wx b N g x I) (l:List Int) (T:TypeId) (hl:l.length≤1000) :
  Lts w (wx.alloc (.cells (l.map (Value.int .i64)).toArray T)) b N g x ((.slice (some ⟨wx.heap.size,0,none⟩) l.length l.length,l) :: I):=by
 have hb:Below wx.heap.size wx (wx.alloc (.cells (l.map (Value.int .i64)).toArray T)):=(Below.refl _ _).alloc (Nat.le_refl _) _
 refine ⟨h.tab.alloc _,h.bel.alloc h.bel.size _,cell_below hb _ _ h.cx,h.lt,fun p hp=>?_⟩
 rcases List.mem_cons.1 hp with rfl | hp
 ·exact IntsAt.new wx l T l.length hl
 ·exact (h.its p hp).below hb
theorem Lts.ins {w wx wy:World} {b N M:Nat} {g k:Int→Value} {x:Int} {I:List (Value × List Int)} (h:Lts w wx b N g x I) (ht:Tab wy b M k) (hg:wx.grownBy wy (some b)):Lts w wy b M k x I:=by
 obtain ⟨es,cl,hm⟩:=h.tab.isMap
 exact ⟨ht,h.bel.grown hg h.bel.size (fun k hk=>by cases hk;exact Nat.le_of_lt h.lt),hg.cell h.cx (by simp;have:=h.lt;omega),h.lt,fun p hp=>(h.its p hp).map hm hg⟩
def needL (x:Int) (q:Bool):List Int:=if x=37 then [] else if x=36 then [33,40] else if x=35 then [if q then 35 else 36,39,33,44,45] else if x=34 then [33,34,40] else []
set_option maxHeartbeats 1600000 in
theorem needed_true (i r nx x f m:Int) (w:World) (hx:IntR x) (HQ:Hid (∀ W,Calls Tryz.prog 71 #[.agg #[.int .u64 i,.int .u64 r,.int .i64 nx,.int .i64 x,.int .i64 f,.int .u32 m]] W fun e w'=>e=.returned (.bool true)∧Below W.heap.size W w')) :
  Calls Tryz.prog 54 #[.agg #[.int .u64 i,.int .u64 r,.int .i64 nx,.int .i64 x,.int .i64 f,.int .u32 m]] w fun e w'=>∃ v,e=.returned v∧IntsAt w' v (needL x true)∧Below w.heap.size w w':=by
 have hmm:=@run_makeMap Tryz.prog
 have HX:=hidden hx
 clear hx
 have HB0:=hidden ((Below.refl w.heap.size w).alloc (Nat.le_refl _) (.cells #[.int .u64 i,.int .u64 r,.int .i64 nx,.int .i64 x,.int .i64 f,.int .u32 m] 29))
 have HC0:Hid ((w.alloc (.cells #[.int .u64 i,.int .u64 r,.int .i64 nx,.int .i64 x,.int .i64 f,.int .u32 m] 29)).cell? ⟨w.heap.size,3,none⟩=some (.int .i64 x)):=by
  rw [World.cell?_alloc_at _ _ _ _ rfl]
  rfl
 go_enter Tryz.func54,Tryz.ntmps54
 go_upto_region 5 with (first
  | (go_at_call 71;(with_reducible refine (HQ.out _).mono ?_);rintro _ w1 ⟨rfl,hb1⟩;have HB1:=hidden (HB0.out.trans (hb1.mono HB0.out.size));have HC1:=hidden (cell_below hb1 _ _ HC0.out);have hl1:=World.block_lt_of_cell? _ _ HC1.out;clear hb1;have hsz:(w1.alloc (.map #[] 0)).heap.size=w1.heap.size+1:=(by simp);have hL1:=(Lts.mk (w:=w) (x:=x) (I:=[]) (Tab.made w1) (HB1.out.alloc HB1.out.size _) (cell_below ((Below.refl _ _).alloc (Nat.le_refl _) (.map #[] 0)) _ _ HC1.out) hl1 (fun _ h=>nomatch h)).step [33,34,40] 3 (by decide);rw [hsz] at hL1;have HL1:=hidden hL1;clear hL1 hsz)
  | (refine wpList_tab _ rfl _ _ _ rfl w1.heap.size 0 _ HL1.out.tab (by omega) rfl 34 rfl _ rfl (by unfold IntR;omega) ?_;rintro w2 hT2 hg2;have HL2:=hidden ((HL1.out.ins hT2 hg2).step [35,39,33,44,45] 3 (by decide));clear hT2 hg2)
  | (refine wpList_tab _ rfl _ _ _ rfl w1.heap.size _ _ HL2.out.tab (by omega) rfl 35 rfl _ rfl (by unfold IntR;omega) ?_;rintro w3 hT3 hg3;have HL3:=hidden ((HL2.out.ins hT3 hg3).step [33,40] 3 (by decide));clear hT3 hg3)
  | (refine wpList_tab _ rfl _ _ _ rfl w1.heap.size _ _ HL3.out.tab (by omega) rfl 36 rfl _ rfl (by unfold IntR;omega) ?_;rintro w4 hT4 hg4;have HL4:=hidden ((HL3.out.ins hT4 hg4).step [] 3 (by decide));clear hT4 hg4)
  | (refine wpList_tab _ rfl _ _ _ rfl w1.heap.size _ _ HL4.out.tab (by omega) rfl 37 rfl _ rfl (by unfold IntR;omega) ?_;rintro w5 hT5 hg5;have HL5:=hidden (HL4.out.ins hT5 hg5);clear hT5 hg5)
  | fail)
 have hcx:=HL5.out.cx
 obtain ⟨v,hv,hI⟩ : ∃ v,(Instr.lookup 142 (.map (some w1.heap.size)) (.int .i64 x) false).run Tryz.prog w5=.ok v w5∧IntsAt w5 v (needL x true):=by
  refine ⟨_,HL5.out.tab.look x HX.out,?_⟩
  have hits:=HL5.out.its
  by_cases h37:x=37
  ·subst h37
   exact hits (_,[]) (by simp)
  by_cases h36:x=36
  ·subst h36
   exact hits (_,[33,40]) (by simp)
  by_cases h35:x=35
  ·subst h35
   exact hits (_,[35,39,33,44,45]) (by simp)
  by_cases h34:x=34
  ·subst h34
   exact hits (_,[33,34,40]) (by simp)
  simp only [h37,h36,h35,h34,if_false,needL]
  exact IntsAt.nil _
 have HI:=hidden hI
 have HB5:=hidden HL5.out.bel
 clear hI HL1 HL2 HL3 HL4 HL5 HQ hmm HX HB0 HC0 HB1 HC1
 go_wp2
 go_ret
 exact ⟨_,rfl,HI.out,HB5.out⟩
set_option maxHeartbeats 1600000 in
theorem needed_false (i r nx x f m:Int) (w:World) (hx:IntR x) (HQ:Hid (∀ W,Calls Tryz.prog 71 #[.agg #[.int .u64 i,.int .u64 r,.int .i64 nx,.int .i64 x,.int .i64 f,.int .u32 m]] W fun e w'=>e=.returned (.bool false)∧Below W.heap.size W w')) :
  Calls Tryz.prog 54 #[.agg #[.int .u64 i,.int .u64 r,.int .i64 nx,.int .i64 x,.int .i64 f,.int .u32 m]] w fun e w'=>∃ v,e=.returned v∧IntsAt w' v (needL x false)∧Below w.heap.size w w':=by
 have hmm:=@run_makeMap Tryz.prog
 have HX:=hidden hx
 clear hx
 have HB0:=hidden ((Below.refl w.heap.size w).alloc (Nat.le_refl _) (.cells #[.int .u64 i,.int .u64 r,.int .i64 nx,.int .i64 x,.int .i64 f,.int .u32 m] 29))
 have HC0:Hid ((w.alloc (.cells #[.int .u64 i,.int .u64 r,.int .i64 nx,.int .i64 x,.int .i64 f,.int .u32 m] 29)).cell? ⟨w.heap.size,3,none⟩=some (.int .i64 x)):=by
  rw [World.cell?_alloc_at _ _ _ _ rfl]
  rfl
 go_enter Tryz.func54,Tryz.ntmps54
 go_upto_region 5 with (first
  | (go_at_call 71;(with_reducible refine (HQ.out _).mono ?_);rintro _ w1 ⟨rfl,hb1⟩;have HB1:=hidden (HB0.out.trans (hb1.mono HB0.out.size));have HC1:=hidden (cell_below hb1 _ _ HC0.out);have hl1:=World.block_lt_of_cell? _ _ HC1.out;clear hb1;have hsz:(w1.alloc (.map #[] 0)).heap.size=w1.heap.size+1:=(by simp);have hL1:=(Lts.mk (w:=w) (x:=x) (I:=[]) (Tab.made w1) (HB1.out.alloc HB1.out.size _) (cell_below ((Below.refl _ _).alloc (Nat.le_refl _) (.map #[] 0)) _ _ HC1.out) hl1 (fun _ h=>nomatch h)).step [33,34,40] 3 (by decide);rw [hsz] at hL1;have HL1:=hidden hL1;clear hL1 hsz)
  | (refine wpList_tab _ rfl _ _ _ rfl w1.heap.size 0 _ HL1.out.tab (by omega) rfl 34 rfl _ rfl (by unfold IntR;omega) ?_;rintro w2 hT2 hg2;have HL2:=hidden ((HL1.out.ins hT2 hg2).step [36,39,33,44,45] 3 (by decide));clear hT2 hg2)
  | (refine wpList_tab _ rfl _ _ _ rfl w1.heap.size _ _ HL2.out.tab (by omega) rfl 35 rfl _ rfl (by unfold IntR;omega) ?_;rintro w3 hT3 hg3;have HL3:=hidden ((HL2.out.ins hT3 hg3).step [33,40] 3 (by decide));clear hT3 hg3)
  | (refine wpList_tab _ rfl _ _ _ rfl w1.heap.size _ _ HL3.out.tab (by omega) rfl 36 rfl _ rfl (by unfold IntR;omega) ?_;rintro w4 hT4 hg4;have HL4:=hidden ((HL3.out.ins hT4 hg4).step [] 3 (by decide));clear hT4 hg4)
  | (refine wpList_tab _ rfl _ _ _ rfl w1.heap.size _ _ HL4.out.tab (by omega) rfl 37 rfl _ rfl (by unfold IntR;omega) ?_;rintro w5 hT5 hg5;have HL5:=hidden (HL4.out.ins hT5 hg5);clear hT5 hg5)
  | fail)
 have hcx:=HL5.out.cx
 obtain ⟨v,hv,hI⟩ : ∃ v,(Instr.lookup 142 (.map (some w1.heap.size)) (.int .i64 x) false).run Tryz.prog w5=.ok v w5∧IntsAt w5 v (needL x false):=by
  refine ⟨_,HL5.out.tab.look x HX.out,?_⟩
  have hits:=HL5.out.its
  by_cases h37:x=37
  ·subst h37
   exact hits (_,[]) (by simp)
  by_cases h36:x=36
  ·subst h36
   exact hits (_,[33,40]) (by simp)
  by_cases h35:x=35
  ·subst h35
   exact hits (_,[36,39,33,44,45]) (by simp)
  by_cases h34:x=34
  ·subst h34
   exact hits (_,[33,34,40]) (by simp)
  simp only [h37,h36,h35,h34,if_false,needL]
  exact IntsAt.nil _
 have HI:=hidden hI
 have HB5:=hidden HL5.out.bel
 clear hI HL1 HL2 HL3 HL4 HL5 HQ hmm HX HB0 HC0 HB1 HC1
 go_wp2
 go_ret
 exact ⟨_,rfl,HI.out,HB5.out⟩
theorem needed_any (i r nx x f m:Int) (w:World) (hx:IntR x) :
  Calls Tryz.prog 54 #[.agg #[.int .u64 i,.int .u64 r,.int .i64 nx,.int .i64 x,.int .i64 f,.int .u32 m]] w fun e w'=>∃ v,e=.returned v∧IntsAt w' v (needL x (bits BinOp.and IntKind.i64 f 32 == 0))∧Below w.heap.size w w':=by
 have HQ:=hidden (fun W=>request_any i r nx x f m W)
 generalize (bits BinOp.and IntKind.i64 f 32 == 0)=q at HQ
 cases q with
 | true=>exact needed_true i r nx x f m w hx HQ
 | false=>exact needed_false i r nx x f m w hx HQ
end Go.Proofs.YtgpigjoonhghhaaGreat
