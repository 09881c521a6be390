/-
 What package selector's questions on addresses and selectors answer.
 A selector that lies in a block of the call's own; a range of ports there; returning them.
 What package selector's Has and Check answer.
-/
import Derived.Test.YtgpigjoonhghhaaGreatQZ0
import Derived.Deep.QuietTactic
import Derived.BigQuiet
namespace Go.Proofs.YtgpigjoonhghhaaGreat
open Go.RowKit
set_option linter.unusedVariables false
theorem below_two {w:World} (o1 o2:Obj):Below w.heap.size w ((w.alloc o1).alloc o2):=((Below.refl _ _).alloc (Nat.le_refl _) o1).alloc (by simp) o2
theorem below_three {w:World} (o1 o2 o3:Obj):Below w.heap.size w (((w.alloc o1).alloc o2).alloc o3):=(below_two o1 o2).alloc (by simp;omega) o3
theorem less_any (x y:Ad) (w:World) :
  Calls Tryz.prog 142 #[(.agg #[.int .i64 x.f,.int .u64 x.h,.int .u64 x.l]),(.agg #[.int .i64 y.f,.int .u64 y.h,.int .u64 y.l])] w fun e w'=>e=.returned (.bool (ltA x y))∧Below w.heap.size w w':=by
 obtain ⟨xf,xh,xl⟩:=x
 obtain ⟨yf,yh,yl⟩:=y
 by_cases h1:xf≠yf
 ·have e1:(xf != yf)=true:=by simpa using h1
  go_enter Tryz.func142,Tryz.ntmps142
  go_wp2
  go_ret
  exact ⟨by simp [ltA,h1],below_two _ _⟩
 obtain rfl:xf=yf:=by omega
 have e1:(xf != xf)=false:=by simp
 by_cases h2:xh≠yh
 ·have e2:(xh != yh)=true:=by simpa using h2
  go_enter Tryz.func142,Tryz.ntmps142
  go_wp2
  go_ret
  exact ⟨by simp [ltA,h2],below_two _ _⟩
 obtain rfl:xh=yh:=by omega
 have e2:(xh != xh)=false:=by simp
 go_enter Tryz.func142,Tryz.ntmps142
 go_wp2
 go_ret
 exact ⟨by simp [ltA],below_two _ _⟩
theorem sless_any (x y:Ad) (w:World) :
  Calls Tryz.prog 134 #[(.agg #[.int .i64 x.f,.int .u64 x.h,.int .u64 x.l]),(.agg #[.int .i64 y.f,.int .u64 y.h,.int .u64 y.l])] w fun e w'=>e=.returned (.bool (ltA x y))∧Below w.heap.size w w':=by
 have HL:=hidden (less_any x y ((w.alloc (.cells #[.int .i64 x.f,.int .u64 x.h,.int .u64 x.l] 120)).alloc (.cells #[.int .i64 y.f,.int .u64 y.h,.int .u64 y.l] 120)))
 have HB:=hidden (below_two (w:=w) (.cells #[.int .i64 x.f,.int .u64 x.h,.int .u64 x.l] 120) (.cells #[.int .i64 y.f,.int .u64 y.h,.int .u64 y.l] 120))
 go_enter Tryz.func134,Tryz.ntmps134
 go_wp2_with (go_at_call 142;(with_reducible refine (HL.out).mono ?_))
 rintro e w1 ⟨rfl,hb⟩
 go_wp2
 go_ret
 exact ⟨rfl,HB.out.trans (hb.mono (by simp;omega))⟩
theorem valid_any (x:Ad) (w:World) :
  Calls Tryz.prog 133 #[(.agg #[.int .i64 x.f,.int .u64 x.h,.int .u64 x.l])] w fun e w'=>e=.returned (.bool (validA x))∧Below w.heap.size w w':=by
 go_enter Tryz.func133,Tryz.ntmps133
 go_wp2
 all_goals go_ret
 all_goals exact ⟨by simp_all [validA],(Below.refl _ _).alloc (Nat.le_refl _) _⟩
theorem arePorts_any (a b:Int) (w:World) :
  Calls Tryz.prog 135 #[.int .i64 a,.int .i64 b] w fun e w'=>e=.returned (.bool (portsOk a b))∧w=w':=by
 go_enter Tryz.func135,Tryz.ntmps135
 go_wp2
 all_goals go_ret
 all_goals refine ⟨?_,rfl⟩
 all_goals simp_all [portsOk]
 all_goals first | omega | (rw [Bool.eq_iff_iff];simp;omega)
end Go.Proofs.YtgpigjoonhghhaaGreat

namespace Go.Proofs.YtgpigjoonhghhaaGreat
open Go.RowKit
set_option linter.unusedVariables false
structure SlIn (w:World) (g:Nat) (s:Sl):Prop where
 c0:w.cell? ⟨g,0,none⟩=some (.int .i64 s.p)
 c1:w.cell? ⟨g,1,none⟩=some (.int .i64 s.a)
 c2:w.cell? ⟨g,2,none⟩=some (.int .i64 s.b)
 c3:w.cell? ⟨g,3,none⟩=some (.int .i64 s.lo.f)
 c4:w.cell? ⟨g,4,none⟩=some (.int .u64 s.lo.h)
 c5:w.cell? ⟨g,5,none⟩=some (.int .u64 s.lo.l)
 c6:w.cell? ⟨g,6,none⟩=some (.int .i64 s.hi.f)
 c7:w.cell? ⟨g,7,none⟩=some (.int .u64 s.hi.h)
 c8:w.cell? ⟨g,8,none⟩=some (.int .u64 s.hi.l)
 fr : ∀ j,w.frozen? ⟨g,j,none⟩=false
theorem SlIn.lt {w:World} {g:Nat} {s:Sl} (h:SlIn w g s):g<w.heap.size:=World.block_lt_of_cell? w _ h.c0
theorem SlIn.grown {w w':World} {g:Nat} {s:Sl} {row:Option Nat} (h:SlIn w g s) (hg:w.grownBy w' row) (hne:some g≠row):SlIn w' g s :=
 ⟨hg.cell h.c0 hne,hg.cell h.c1 hne,hg.cell h.c2 hne,hg.cell h.c3 hne,hg.cell h.c4 hne,hg.cell h.c5 hne,hg.cell h.c6 hne,hg.cell h.c7 hne,hg.cell h.c8 hne,fun j=>(World.frozen?_of_block (a:=⟨g,j,none⟩) (hg.block g h.lt hne)).trans (h.fr j)⟩
theorem SlIn.below {w w':World} {g:Nat} {s:Sl} (h:SlIn w g s) (hb:Below w.heap.size w w'):SlIn w' g s:=h.grown (row:=none) (grown_of_below hb none) (by simp)
theorem SlIn.alloc {w:World} {g:Nat} {s:Sl} (h:SlIn w g s) (b:Obj):SlIn (w.alloc b) g s:=h.below ((Below.refl _ _).alloc (Nat.le_refl _) b)
theorem SlIn.new (w:World) (s:Sl) (T:TypeId):SlIn (w.alloc (.cells #[.int .i64 s.p,.int .i64 s.a,.int .i64 s.b,.int .i64 s.lo.f,.int .u64 s.lo.h,.int .u64 s.lo.l,.int .i64 s.hi.f,.int .u64 s.hi.h,.int .u64 s.hi.l] T)) w.heap.size s :=
 ⟨by go_simp,by go_simp,by go_simp,by go_simp,by go_simp,by go_simp,by go_simp,by go_simp,by go_simp,fun j=>by go_simp⟩
theorem SlIn.set_ne {w:World} {g:Nat} {s:Sl} (h:SlIn w g s) (g' j:Nat) (v:Value) (hne:g≠g'):SlIn (w.setCell ⟨g',j,none⟩ v) g s :=
 h.grown (grown_set w g' j v) (by simp;exact hne)
section
variable {w:World} {g:Nat} {s:Sl}
theorem SlIn.setP (h:SlIn w g s) (z:Int):SlIn (w.setCell ⟨g,0,none⟩ (.int .i64 z)) g { s with p:=z }:=by
 obtain ⟨c0,c1,c2,c3,c4,c5,c6,c7,c8,fr⟩:=h
 exact ⟨by go_simp,by go_simp,by go_simp,by go_simp,by go_simp,by go_simp,by go_simp,by go_simp,by go_simp,fun j=>by rw [World.frozen?_setCell];exact fr j⟩
theorem SlIn.setA (h:SlIn w g s) (z:Int):SlIn (w.setCell ⟨g,1,none⟩ (.int .i64 z)) g { s with a:=z }:=by
 obtain ⟨c0,c1,c2,c3,c4,c5,c6,c7,c8,fr⟩:=h
 exact ⟨by go_simp,by go_simp,by go_simp,by go_simp,by go_simp,by go_simp,by go_simp,by go_simp,by go_simp,fun j=>by rw [World.frozen?_setCell];exact fr j⟩
theorem SlIn.setB (h:SlIn w g s) (z:Int):SlIn (w.setCell ⟨g,2,none⟩ (.int .i64 z)) g { s with b:=z }:=by
 obtain ⟨c0,c1,c2,c3,c4,c5,c6,c7,c8,fr⟩:=h
 exact ⟨by go_simp,by go_simp,by go_simp,by go_simp,by go_simp,by go_simp,by go_simp,by go_simp,by go_simp,fun j=>by rw [World.frozen?_setCell];exact fr j⟩
theorem SlIn.setLo (h:SlIn w g s) (z:Ad):SlIn (((w.setCell ⟨g,3,none⟩ (.int .i64 z.f)).setCell ⟨g,4,none⟩ (.int .u64 z.h)).setCell ⟨g,5,none⟩ (.int .u64 z.l)) g { s with lo:=z }:=by
 obtain ⟨c0,c1,c2,c3,c4,c5,c6,c7,c8,fr⟩:=h
 exact ⟨by go_simp,by go_simp,by go_simp,by go_simp,by go_simp,by go_simp,by go_simp,by go_simp,by go_simp,fun j=>by rw [World.frozen?_setCell,World.frozen?_setCell,World.frozen?_setCell];exact fr j⟩
theorem SlIn.setHi (h:SlIn w g s) (z:Ad):SlIn (((w.setCell ⟨g,6,none⟩ (.int .i64 z.f)).setCell ⟨g,7,none⟩ (.int .u64 z.h)).setCell ⟨g,8,none⟩ (.int .u64 z.l)) g { s with hi:=z }:=by
 obtain ⟨c0,c1,c2,c3,c4,c5,c6,c7,c8,fr⟩:=h
 exact ⟨by go_simp,by go_simp,by go_simp,by go_simp,by go_simp,by go_simp,by go_simp,by go_simp,by go_simp,fun j=>by rw [World.frozen?_setCell,World.frozen?_setCell,World.frozen?_setCell];exact fr j⟩
theorem SlIn.setAll (h:SlIn w g s) (z:Sl):SlIn (((((((((w.setCell ⟨g,0,none⟩ (.int .i64 z.p)).setCell ⟨g,1,none⟩ (.int .i64 z.a)).setCell ⟨g,2,none⟩ (.int .i64 z.b)).setCell ⟨g,3,none⟩ (.int .i64 z.lo.f)).setCell ⟨g,4,none⟩ (.int .u64 z.lo.h)).setCell ⟨g,5,none⟩ (.int .u64 z.lo.l)).setCell ⟨g,6,none⟩ (.int .i64 z.hi.f)).setCell ⟨g,7,none⟩ (.int .u64 z.hi.h)).setCell ⟨g,8,none⟩ (.int .u64 z.hi.l)) g z :=
 (((((h.setP z.p).setA z.a).setB z.b).setLo z.lo).setHi z.hi)
end
theorem load_sl {w:World} {g:Nat} {s:Sl} (h:SlIn w g s):(loadVar 122 ⟨g,0,none⟩).run Tryz.prog w=.ok (.agg #[.int .i64 s.p,.int .i64 s.a,.int .i64 s.b,.int .i64 s.lo.f,.int .u64 s.lo.h,.int .u64 s.lo.l,.int .i64 s.hi.f,.int .u64 s.hi.h,.int .u64 s.hi.l]) w:=by
 obtain ⟨c0,c1,c2,c3,c4,c5,c6,c7,c8,fr⟩:=h
 simp [loadVar,go_sem,c0,c1,c2,c3,c4,c5,c6,c7,c8,Result.andThen]
theorem ret_sl {fn:Func} {R:Ending→World→Prop} {a:Act} {w:World} {p:Nat} {g:Nat} {s:Sl} (h:fn.results=#[.cell p 122]) (hp:a.tmps.getD p undef=.pointer (some ⟨g,0,none⟩)) (hd:a.defers=[])
  (hh:SlIn w g s) (hR:R (.returned (.agg #[.int .i64 s.p,.int .i64 s.a,.int .i64 s.b,.int .i64 s.lo.f,.int .u64 s.lo.h,.int .u64 s.lo.l,.int .i64 s.hi.f,.int .u64 s.hi.h,.int .u64 s.hi.l])) w):bodyPost Tryz.prog fn R .ret a w:=by
 refine bodyPost_ret (v:=(.agg #[.int .i64 s.p,.int .i64 s.a,.int .i64 s.b,.int .i64 s.lo.f,.int .u64 s.lo.h,.int .u64 s.lo.l,.int .i64 s.hi.f,.int .u64 s.hi.h,.int .u64 s.hi.l])) ?_ hd hR
 rw [Array.getD_eq_getD_getElem?] at hp
 simp [results,h,hp,asAddr,load_sl hh]
structure AdIn (w:World) (g:Nat) (x:Ad):Prop where
 c0:w.cell? ⟨g,0,none⟩=some (.int .i64 x.f)
 c1:w.cell? ⟨g,1,none⟩=some (.int .u64 x.h)
 c2:w.cell? ⟨g,2,none⟩=some (.int .u64 x.l)
 fr : ∀ j,w.frozen? ⟨g,j,none⟩=false
theorem AdIn.lt {w:World} {g:Nat} {x:Ad} (h:AdIn w g x):g<w.heap.size:=World.block_lt_of_cell? w _ h.c0
theorem AdIn.grown {w w':World} {g:Nat} {x:Ad} {row:Option Nat} (h:AdIn w g x) (hg:w.grownBy w' row) (hne:some g≠row):AdIn w' g x :=
 ⟨hg.cell h.c0 hne,hg.cell h.c1 hne,hg.cell h.c2 hne,fun j=>(World.frozen?_of_block (a:=⟨g,j,none⟩) (hg.block g h.lt hne)).trans (h.fr j)⟩
theorem AdIn.below {w w':World} {g:Nat} {x:Ad} (h:AdIn w g x) (hb:Below w.heap.size w w'):AdIn w' g x:=h.grown (row:=none) (grown_of_below hb none) (by simp)
theorem AdIn.alloc {w:World} {g:Nat} {x:Ad} (h:AdIn w g x) (b:Obj):AdIn (w.alloc b) g x:=h.below ((Below.refl _ _).alloc (Nat.le_refl _) b)
theorem AdIn.new (w:World) (x:Ad) (T:TypeId):AdIn (w.alloc (.cells #[.int .i64 x.f,.int .u64 x.h,.int .u64 x.l] T)) w.heap.size x :=
 ⟨by go_simp,by go_simp,by go_simp,fun j=>by go_simp⟩
theorem AdIn.set_ne {w:World} {g:Nat} {x:Ad} (h:AdIn w g x) (g' j:Nat) (v:Value) (hne:g≠g'):AdIn (w.setCell ⟨g',j,none⟩ v) g x :=
 h.grown (grown_set w g' j v) (by simp;exact hne)
theorem AdIn.setH {w:World} {g:Nat} {x:Ad} (h:AdIn w g x) (z:Int):AdIn (w.setCell ⟨g,1,none⟩ (.int .u64 z)) g { x with h:=z }:=by
 obtain ⟨c0,c1,c2,fr⟩:=h
 exact ⟨by go_simp,by go_simp,by go_simp,fun j=>by rw [World.frozen?_setCell];exact fr j⟩
theorem AdIn.setL {w:World} {g:Nat} {x:Ad} (h:AdIn w g x) (z:Int):AdIn (w.setCell ⟨g,2,none⟩ (.int .u64 z)) g { x with l:=z }:=by
 obtain ⟨c0,c1,c2,fr⟩:=h
 exact ⟨by go_simp,by go_simp,by go_simp,fun j=>by rw [World.frozen?_setCell];exact fr j⟩
theorem load_ad {w:World} {g:Nat} {x:Ad} (h:AdIn w g x):(loadVar 120 ⟨g,0,none⟩).run Tryz.prog w=.ok (.agg #[.int .i64 x.f,.int .u64 x.h,.int .u64 x.l]) w:=by
 obtain ⟨c0,c1,c2,fr⟩:=h
 simp [loadVar,go_sem,c0,c1,c2,Result.andThen]
theorem ret_ad {fn:Func} {R:Ending→World→Prop} {a:Act} {w:World} {p:Nat} {g:Nat} {x:Ad} (h:fn.results=#[.cell p 120]) (hp:a.tmps.getD p undef=.pointer (some ⟨g,0,none⟩)) (hd:a.defers=[])
  (hh:AdIn w g x) (hR:R (.returned (.agg #[.int .i64 x.f,.int .u64 x.h,.int .u64 x.l])) w):bodyPost Tryz.prog fn R .ret a w:=by
 refine bodyPost_ret (v:=(.agg #[.int .i64 x.f,.int .u64 x.h,.int .u64 x.l])) ?_ hd hR
 rw [Array.getD_eq_getD_getElem?] at hp
 simp [results,h,hp,asAddr,load_ad hh]
structure TwoIn (w:World) (g:Nat) (x y:Int):Prop where
 c0:w.cell? ⟨g,0,none⟩=some (.int .i64 x)
 c1:w.cell? ⟨g,1,none⟩=some (.int .i64 y)
 fr : ∀ j,w.frozen? ⟨g,j,none⟩=false
theorem TwoIn.lt {w:World} {g:Nat} {x y:Int} (h:TwoIn w g x y):g<w.heap.size:=World.block_lt_of_cell? w _ h.c0
theorem TwoIn.grown {w w':World} {g:Nat} {x y:Int} {row:Option Nat} (h:TwoIn w g x y) (hg:w.grownBy w' row) (hne:some g≠row):TwoIn w' g x y :=
 ⟨hg.cell h.c0 hne,hg.cell h.c1 hne,fun j=>(World.frozen?_of_block (a:=⟨g,j,none⟩) (hg.block g h.lt hne)).trans (h.fr j)⟩
theorem TwoIn.below {w w':World} {g:Nat} {x y:Int} (h:TwoIn w g x y) (hb:Below w.heap.size w w'):TwoIn w' g x y:=h.grown (row:=none) (grown_of_below hb none) (by simp)
theorem TwoIn.alloc {w:World} {g:Nat} {x y:Int} (h:TwoIn w g x y) (b:Obj):TwoIn (w.alloc b) g x y:=h.below ((Below.refl _ _).alloc (Nat.le_refl _) b)
theorem TwoIn.new (w:World) (x y:Int) (T:TypeId):TwoIn (w.alloc (.cells #[.int .i64 x,.int .i64 y] T)) w.heap.size x y :=
 ⟨by go_simp,by go_simp,fun j=>by go_simp⟩
theorem TwoIn.set_ne {w:World} {g:Nat} {x y:Int} (h:TwoIn w g x y) (g' j:Nat) (v:Value) (hne:g≠g'):TwoIn (w.setCell ⟨g',j,none⟩ v) g x y :=
 h.grown (grown_set w g' j v) (by simp;exact hne)
end Go.Proofs.YtgpigjoonhghhaaGreat

namespace Go.Proofs.YtgpigjoonhghhaaGreat
open Go.RowKit
set_option linter.unusedVariables false
theorem checkS_cases (s:Sl) (b1 b2 b3 b4:Bool) (h1:validA s.lo=b1) (h2:validA s.hi=b2) (h3:ltA s.hi s.lo=b3) (h4:portsOk s.a s.b=b4) (z:Int) (h:checkS s=z) :
  (b1=false∧z=15)∨(b1=true∧b2=false∧z=15)∨(b1=true∧b2=true∧(s.lo.f != s.hi.f)=true∧z=15)∨(b1=true∧b2=true∧(s.lo.f != s.hi.f)=false∧b3=true∧z=5) ∨
  (b1=true∧b2=true∧(s.lo.f != s.hi.f)=false∧b3=false∧s.p<0∧z=5)∨(b1=true∧b2=true∧(s.lo.f != s.hi.f)=false∧b3=false∧¬ s.p<0∧s.p > 255∧z=5) ∨
  (b1=true∧b2=true∧(s.lo.f != s.hi.f)=false∧b3=false∧¬ s.p<0∧¬ s.p > 255∧b4=false∧z=5)∨(b1=true∧b2=true∧(s.lo.f != s.hi.f)=false∧b3=false∧¬ s.p<0∧¬ s.p > 255∧b4=true∧z=0):=by
 unfold checkS at h
 rw [h1,h2,h3,h4] at h
 subst h
 by_cases hf:s.lo.f=s.hi.f<;>by_cases hp:s.p<0<;>by_cases hq:s.p > 255<;>cases b1<;>cases b2<;>cases b3<;>cases b4<;>simp_all
set_option maxHeartbeats 1600000 in
theorem scheck_at (s:Sl) (z:Int) (hz:checkS s=z) (w:World) :
  Calls Tryz.prog 123 #[(.agg #[.int .i64 s.p,.int .i64 s.a,.int .i64 s.b,.int .i64 s.lo.f,.int .u64 s.lo.h,.int .u64 s.lo.l,.int .i64 s.hi.f,.int .u64 s.hi.h,.int .u64 s.hi.l])] w fun e w'=>e=.returned (.int .i64 z)∧Below w.heap.size w w':=by
 obtain ⟨b1,h1⟩ : ∃ b,validA s.lo=b:=⟨_,rfl⟩
 obtain ⟨b2,h2⟩ : ∃ b,validA s.hi=b:=⟨_,rfl⟩
 obtain ⟨b3,h3⟩ : ∃ b,ltA s.hi s.lo=b:=⟨_,rfl⟩
 obtain ⟨b4,h4⟩ : ∃ b,portsOk s.a s.b=b:=⟨_,rfl⟩
 have hc:=checkS_cases s b1 b2 b3 b4 h1 h2 h3 h4 z hz
 have HV:=hidden (valid_any s.lo)
 have HU:=hidden (valid_any s.hi)
 have HL:=hidden (sless_any s.hi s.lo)
 have HQ:=hidden (arePorts_any s.a s.b)
 rw [h1] at HV
 rw [h2] at HU
 rw [h3] at HL
 rw [h4] at HQ
 have HB:=hidden ((Below.refl w.heap.size w).alloc (Nat.le_refl _) (.cells #[.int .i64 s.p,.int .i64 s.a,.int .i64 s.b,.int .i64 s.lo.f,.int .u64 s.lo.h,.int .u64 s.lo.l,.int .i64 s.hi.f,.int .u64 s.hi.h,.int .u64 s.hi.l] 122))
 have HS:=hidden (SlIn.new w s 122)
 clear h1 h2 h3 h4 hz
 rcases hc with ⟨rfl,rfl⟩ | ⟨rfl,rfl,rfl⟩ | ⟨rfl,rfl,k1,rfl⟩ | ⟨rfl,rfl,k1,rfl,rfl⟩ | ⟨rfl,rfl,k1,rfl,k2,rfl⟩ | ⟨rfl,rfl,k1,rfl,k2,k3,rfl⟩ | ⟨rfl,rfl,k1,rfl,k2,k3,rfl,rfl⟩ | ⟨rfl,rfl,k1,rfl,k2,k3,rfl,rfl⟩
 all_goals
  go_enter Tryz.func123,Tryz.ntmps123
  go_wp2_with (first
   | (go_at_call 133;(first | (with_reducible refine (HV.out _).mono ?_) | (with_reducible refine (HU.out _).mono ?_));rintro e w1 ⟨rfl,hb⟩;replace HB:=hidden (HB.out.trans (hb.mono HB.out.size));replace HS:=hidden (HS.out.below hb);clear hb;(try clear c0 c1 c2 c3 c4 c5 c6 c7 c8 fr);obtain ⟨c0,c1,c2,c3,c4,c5,c6,c7,c8,fr⟩:=HS.out)
   | (go_at_call 134;(with_reducible refine (HL.out _).mono ?_);rintro e w1 ⟨rfl,hb⟩;replace HB:=hidden (HB.out.trans (hb.mono HB.out.size));replace HS:=hidden (HS.out.below hb);clear hb;clear c0 c1 c2 c3 c4 c5 c6 c7 c8 fr;obtain ⟨c0,c1,c2,c3,c4,c5,c6,c7,c8,fr⟩:=HS.out)
   | (go_at_call 135;(with_reducible refine (HQ.out _).mono ?_);rintro e w1 ⟨rfl,rfl⟩))
  go_ret
  exact ⟨rfl,HB.out⟩
end Go.Proofs.YtgpigjoonhghhaaGreat
