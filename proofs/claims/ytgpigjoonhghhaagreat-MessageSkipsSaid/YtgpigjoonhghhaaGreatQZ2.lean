/-
 A row of bytes of the call's own: seen from an earlier place, and in a later world.
 What wire.Number returns, for every slice of bytes, place and width.
 A payload as a value of sixteen cells: in a block, loaded, stored, returned.
 Plain mathematics, no program: the bytes of selectors; what is read of bytes.
 An equation that no walk looks into.
 The lengths of SPIs and the first errors of notifications and deletions, as package payload tells them.
 Lists of rows of bytes: an element says where its bytes lie.
 What slices.Clone of bytes returns: bytes of the call's own that are those of the argument.
 What wire.Put returns, for every slice of bytes, number and width.
 What the document's own Compare and Equal return: the lexicographic order of two slices of bytes, and whether they are equal.
 What wire.Equal returns: whether two slices of bytes hold the same numbers.
 What wire.Slice returns, for every slice of bytes, place and length.
 The cursor that package proposal reads with: a field behind the other; one that is missing is thrown.
 A map of the call's own from transforms to bools that holds just those of a list.
 A list of choices: some bytes.
 What the document's own Put returns, for every slice of bytes, number and width.
 Plain mathematics, no program: chains of payloads as bytes, written and read.
 Lists of payloads in memory, whatever the program: a row of the call's own whose elements have three cells: a number, a Boolean, a slice of bytes.
-/
import Derived.Test.YtgpigjoonhghhaaGreatQZ0
import Derived.Test.YtgpigjoonhghhaaGreatRows
import Derived.Test.YtgpigjoonhghhaaGreatQNum
import Derived.Deep.QuietTactic
import Derived.BigQuiet
import Derived.WalkLawsBesides
import Derived.Deep.RegionLaw
import Derived.Maps.OwnOps
import Derived.Maps.Views
import Derived.DeepKeys4
namespace Go.Proofs.YtgpigjoonhghhaaGreat
open Go.RowKit
set_option linter.unusedVariables false
theorem Own.mono {w:World} {base base':Nat} {e:TypeId} {v:Value} {xs:List Int} (h:Own w base e v xs) (hb:base'≤base):Own w base' e v xs:=by
 refine ⟨h.1,?_⟩
 rcases h.2 with h1 | ⟨g,cap,cur,hv,hg,rest⟩
 ·exact Or.inl h1
 ·exact Or.inr ⟨g,cap,cur,hv,by omega,rest⟩
theorem Own.below {w w':World} {base:Nat} {e:TypeId} {v:Value} {xs:List Int} (h:Own w base e v xs) (hb:Below w.heap.size w w'):Own w' base e v xs :=
 World.ownsRow.kept (row:=none) h ⟨hb.os,hb.tape,hb.output,hb.size,fun i hi _=>hb.block i hi⟩ (by
  rcases hv:v.ownBlock with _ | b
  ·exact Or.inl rfl
  ·exact Or.inr (by simp))
end Go.Proofs.YtgpigjoonhghhaaGreat

namespace Go.Proofs.YtgpigjoonhghhaaGreat
open Go.RowKit
set_option linter.unusedVariables false
theorem isWidth_yes (v:Int) (w:World) (h1:1≤v) (h8:v≤8):Calls Tryz.prog 97 #[.int .i64 v] w fun e w'=>e=.returned (.bool true)∧w=w':=by
 go_enter Tryz.func97,Tryz.ntmps97
 go_wp2
 go_ret
 exact ⟨by simp<;>omega,rfl⟩
theorem isWidth_no (v:Int) (w:World) (h:v<1∨8<v):Calls Tryz.prog 97 #[.int .i64 v] w fun e w'=>e=.returned (.bool false)∧w=w':=by
 go_enter Tryz.func97,Tryz.ntmps97
 go_wp2
 all_goals go_ret
 all_goals exact ⟨by simp<;>omega,rfl⟩
theorem inside_yes (p:Option Addr) (n c:Nat) (a k:Int) (w:World) (hn:n≤9223372036854775807) (h1:0≤a) (h2:0≤k) (h3:k≤n - a) :
  Calls Tryz.prog 98 #[.slice p n c,.int .i64 a,.int .i64 k] w fun e w'=>e=.returned (.bool true)∧w=w':=by
 go_enter Tryz.func98,Tryz.ntmps98
 go_wp2
 go_ret
 exact ⟨by simp<;>omega,rfl⟩
theorem inside_no (p:Option Addr) (n c:Nat) (a k:Int) (w:World) (hn:n≤9223372036854775807) (ha:a≤9223372036854775807) (h:a<0∨k<0∨n - a<k) :
  Calls Tryz.prog 98 #[.slice p n c,.int .i64 a,.int .i64 k] w fun e w'=>e=.returned (.bool false)∧w=w':=by
 by_cases h1:0≤a
 ·by_cases h2:0≤k
  ·have h3:(n:Int) - a<k:=by omega
   go_enter Tryz.func98,Tryz.ntmps98
   go_wp2
   all_goals go_ret
   all_goals exact ⟨by simp<;>omega,rfl⟩
  ·go_enter Tryz.func98,Tryz.ntmps98
   go_wp2
   all_goals go_ret
   all_goals exact ⟨by simp<;>omega,rfl⟩
 ·go_enter Tryz.func98,Tryz.ntmps98
  go_wp2
  all_goals go_ret
  all_goals exact ⟨by simp<;>omega,rfl⟩
set_option maxHeartbeats 400000 in
theorem number_yes (p:Option Addr) (n c:Nat) (xs:List Int) (w:World) (h:Byt w p n c xs) (a k:Nat) (h1:1≤k) (h8:k≤8) (hin:a+k≤n) :
  Calls Tryz.prog 79 #[.slice p n c,.int .i64 a,.int .i64 k] w fun e w'=>e=.returned (.tuple #[.int .u64 (val ((xs.drop a).take k)),.bool true])∧w=w':=by
 have hn:=h.le
 have hcap:=h.cap
 obtain ⟨b,o,rfl,hc⟩:=h.at_ (by omega)
 have hl:((xs.drop a).take k).length=k:=by have:=h.len;simp;omega
 have hr : ∀ x∈(xs.drop a).take k,0≤x∧x≤255:=rng_take (rng_drop h.rng _) _
 have hcc : ∀ j,j<k→w.cell? ⟨b,o+a+j,none⟩=some (.int .u8 (((xs.drop a).take k).getD j 0)):=fun j hj=>by
  rw [Nat.add_assoc,hc (a+j) (by omega)]
  simp [List.getD_eq_getElem?_getD,List.getElem?_take_of_lt hj]
 generalize (xs.drop a).take k=ys at hl hr hcc
 clear hc h
 go_enter Tryz.func79,Tryz.ntmps79
 go_wp2_with (first | (go_at_call 97;refine (isWidth_yes _ _ (by omega) (by omega)).mono ?_;rintro e w' ⟨rfl,rfl⟩) | (go_at_call 98;refine (inside_yes _ _ _ _ _ _ (by omega) (by omega) (by omega) (by omega)).mono ?_;rintro e w' ⟨rfl,rfl⟩))
 go_loop [8,10,28] (fun v x i=>∃ j:Nat,j≤k∧i=.int .i64 j∧v=.int .u64 (val (ys.take j))) (fun _ _ i=>k - (intOf i).toNat)
 case atStart=>exact ⟨0,by omega,rfl,rfl⟩
 case round =>
  obtain ⟨j,hj,rfl,rfl⟩:=hrel
  by_cases hlt:j<k
  ·have hcell:=hcc j hlt
   have hb:=rng_getD hr j
   have hv:=val_56 (ys.take j) (rng_take hr j) (by simp;omega)
   have hs:=hidden (val_step ys j (by omega))
   have ho:=or_byte (val (ys.take j)) (ys.getD j 0) hv.1 hv.2 hb.1 hb.2
   generalize val (ys.take j)=v at *
   generalize ys.getD j 0=x at *
   clear hcc hr hl
   go_wp2
   go_round
   case rel=>exact ⟨j+1,by omega,by go_num,by rw [hs.out]⟩
   case measure=>simp [intOf];omega
  ·obtain rfl:j=k:=by omega
   have hy:ys.take j=ys:=List.take_of_length_le (by omega)
   clear hcc hr
   go_wp2
   go_ret2
   exact ⟨rfl,rfl⟩
set_option maxHeartbeats 400000 in
theorem number_any (p:Option Addr) (n c:Nat) (xs:List Int) (w:World) (h:Byt w p n c xs) (a k:Int) (ha : -9223372036854775808≤a∧a≤9223372036854775807) (hk : -9223372036854775808≤k∧k≤9223372036854775807) :
  Calls Tryz.prog 79 #[.slice p n c,.int .i64 a,.int .i64 k] w fun e w'=>e=.returned (.tuple #[.int .u64 (numR xs a k).1,.bool (numR xs a k).2])∧w=w':=by
 have hn:=h.le
 by_cases hw:1≤k∧k≤8
 ·by_cases hi:0≤a∧a+k≤n
  ·obtain ⟨a,rfl⟩:=Int.eq_ofNat_of_zero_le hi.1
   obtain ⟨k,rfl⟩:=Int.eq_ofNat_of_zero_le (show 0≤k by omega)
   have:=number_yes p n c xs w h a k (by omega) (by omega) (by omega)
   rw [numR,if_pos (by have:=h.len;omega)]
   exact this
  ·rw [numR,if_neg (by have:=h.len;omega)]
   clear h
   go_enter Tryz.func79,Tryz.ntmps79
   go_wp2_with (first | (go_at_call 97;refine (isWidth_yes _ _ (by omega) (by omega)).mono ?_;rintro e w' ⟨rfl,rfl⟩) | (go_at_call 98;refine (inside_no _ _ _ _ _ _ (by omega) (by omega) (by omega)).mono ?_;rintro e w' ⟨rfl,rfl⟩))
   go_ret2
   exact ⟨rfl,rfl⟩
 ·rw [numR,if_neg (by omega)]
  clear h
  go_enter Tryz.func79,Tryz.ntmps79
  go_wp2_with (first | (go_at_call 97;refine (isWidth_no _ _ (by omega)).mono ?_;rintro e w' ⟨rfl,rfl⟩))
  go_ret2
  exact ⟨rfl,rfl⟩
end Go.Proofs.YtgpigjoonhghhaaGreat

namespace Go.Proofs.YtgpigjoonhghhaaGreat
open Go.RowKit
set_option linter.unusedVariables false
structure Sv where
 p:Option Addr
 n:Nat
 c:Nat
def nilV:Sv:=⟨none,0,0⟩
structure Pv where
 t:Int
 pr:Sv
 eg:Int
 ed:Sv
 ik:Int
 id:Sv
 am:Int
 ad:Sv
 np:Int
 ns:Sv
 nt:Int
 nd:Sv
 dp:Int
 ds:Sv
 se:Sv
 da:Sv
structure PvIn (w:World) (g:Nat) (x:Pv):Prop where
 c0:w.cell? ⟨g,0,none⟩=some (.int .i64 x.t)
 c1:w.cell? ⟨g,1,none⟩=some (.slice x.pr.p x.pr.n x.pr.c)
 c2:w.cell? ⟨g,2,none⟩=some (.int .i64 x.eg)
 c3:w.cell? ⟨g,3,none⟩=some (.slice x.ed.p x.ed.n x.ed.c)
 c4:w.cell? ⟨g,4,none⟩=some (.int .i64 x.ik)
 c5:w.cell? ⟨g,5,none⟩=some (.slice x.id.p x.id.n x.id.c)
 c6:w.cell? ⟨g,6,none⟩=some (.int .i64 x.am)
 c7:w.cell? ⟨g,7,none⟩=some (.slice x.ad.p x.ad.n x.ad.c)
 c8:w.cell? ⟨g,8,none⟩=some (.int .i64 x.np)
 c9:w.cell? ⟨g,9,none⟩=some (.slice x.ns.p x.ns.n x.ns.c)
 c10:w.cell? ⟨g,10,none⟩=some (.int .i64 x.nt)
 c11:w.cell? ⟨g,11,none⟩=some (.slice x.nd.p x.nd.n x.nd.c)
 c12:w.cell? ⟨g,12,none⟩=some (.int .i64 x.dp)
 c13:w.cell? ⟨g,13,none⟩=some (.slice x.ds.p x.ds.n x.ds.c)
 c14:w.cell? ⟨g,14,none⟩=some (.slice x.se.p x.se.n x.se.c)
 c15:w.cell? ⟨g,15,none⟩=some (.slice x.da.p x.da.n x.da.c)
 fr : ∀ j,w.frozen? ⟨g,j,none⟩=false
section
variable {w w':World} {g:Nat} {x:Pv}
theorem PvIn.lt (h:PvIn w g x):g<w.heap.size:=World.block_lt_of_cell? w _ h.c0
theorem PvIn.grown {row:Option Nat} (h:PvIn w g x) (hg:w.grownBy w' row) (hne:some g≠row):PvIn w' g x :=
 ⟨hg.cell h.c0 hne,hg.cell h.c1 hne,hg.cell h.c2 hne,hg.cell h.c3 hne,hg.cell h.c4 hne,hg.cell h.c5 hne,hg.cell h.c6 hne,hg.cell h.c7 hne,hg.cell h.c8 hne,hg.cell h.c9 hne,hg.cell h.c10 hne,hg.cell h.c11 hne,hg.cell h.c12 hne,hg.cell h.c13 hne,hg.cell h.c14 hne,hg.cell h.c15 hne,fun j=>(World.frozen?_of_block (a:=⟨g,j,none⟩) (hg.block g h.lt hne)).trans (h.fr j)⟩
theorem PvIn.below (h:PvIn w g x) (hb:Below w.heap.size w w'):PvIn w' g x:=h.grown (row:=none) (grown_of_below hb none) (by simp)
theorem PvIn.alloc (h:PvIn w g x) (b:Obj):PvIn (w.alloc b) g x:=h.below ((Below.refl _ _).alloc (Nat.le_refl _) b)
theorem PvIn.new (w:World) (x:Pv) (T:TypeId):PvIn (w.alloc (.cells #[.int .i64 x.t,.slice x.pr.p x.pr.n x.pr.c,.int .i64 x.eg,.slice x.ed.p x.ed.n x.ed.c,.int .i64 x.ik,.slice x.id.p x.id.n x.id.c,.int .i64 x.am,.slice x.ad.p x.ad.n x.ad.c,.int .i64 x.np,.slice x.ns.p x.ns.n x.ns.c,.int .i64 x.nt,.slice x.nd.p x.nd.n x.nd.c,.int .i64 x.dp,.slice x.ds.p x.ds.n x.ds.c,.slice x.se.p x.se.n x.se.c,.slice x.da.p x.da.n x.da.c] T)) w.heap.size x :=
 ⟨by go_simp,by go_simp,by go_simp,by go_simp,by go_simp,by go_simp,by go_simp,by go_simp,by go_simp,by go_simp,by go_simp,by go_simp,by go_simp,by go_simp,by go_simp,by go_simp,fun j=>by go_simp⟩
theorem PvIn.set_ne (h:PvIn w g x) (g' j:Nat) (v:Value) (hne:g≠g'):PvIn (w.setCell ⟨g',j,none⟩ v) g x :=
 h.grown (grown_set w g' j v) (by simp;exact hne)
def setPv (w:World) (g:Nat) (z:Pv):World:=((((((((((((((((w.setCell ⟨g,0,none⟩ (.int .i64 z.t)).setCell ⟨g,1,none⟩ (.slice z.pr.p z.pr.n z.pr.c)).setCell ⟨g,2,none⟩ (.int .i64 z.eg)).setCell ⟨g,3,none⟩ (.slice z.ed.p z.ed.n z.ed.c)).setCell ⟨g,4,none⟩ (.int .i64 z.ik)).setCell ⟨g,5,none⟩ (.slice z.id.p z.id.n z.id.c)).setCell ⟨g,6,none⟩ (.int .i64 z.am)).setCell ⟨g,7,none⟩ (.slice z.ad.p z.ad.n z.ad.c)).setCell ⟨g,8,none⟩ (.int .i64 z.np)).setCell ⟨g,9,none⟩ (.slice z.ns.p z.ns.n z.ns.c)).setCell ⟨g,10,none⟩ (.int .i64 z.nt)).setCell ⟨g,11,none⟩ (.slice z.nd.p z.nd.n z.nd.c)).setCell ⟨g,12,none⟩ (.int .i64 z.dp)).setCell ⟨g,13,none⟩ (.slice z.ds.p z.ds.n z.ds.c)).setCell ⟨g,14,none⟩ (.slice z.se.p z.se.n z.se.c)).setCell ⟨g,15,none⟩ (.slice z.da.p z.da.n z.da.c))
theorem setPv_frozen (w:World) (g:Nat) (z:Pv) (a:Addr):(setPv w g z).frozen? a=w.frozen? a:=by
 unfold setPv
 simp only [World.frozen?_setCell]
theorem setPv_in (h:PvIn w g x) (z:Pv):PvIn (setPv w g z) g z:=by
 have hf:=setPv_frozen w g z
 obtain ⟨c0,c1,c2,c3,c4,c5,c6,c7,c8,c9,c10,c11,c12,c13,c14,c15,fr⟩:=h
 unfold setPv at hf ⊢
 exact ⟨by go_simp,by go_simp,by go_simp,by go_simp,by go_simp,by go_simp,by go_simp,by go_simp,by go_simp,by go_simp,by go_simp,by go_simp,by go_simp,by go_simp,by go_simp,by go_simp,fun j=>by rw [hf];exact fr j⟩
theorem setPv_grown (w:World) (g:Nat) (z:Pv):w.grownBy (setPv w g z) (some g):=by
 unfold setPv
 exact grown_trans (grown_trans (grown_trans (grown_trans (grown_trans (grown_trans (grown_trans (grown_trans (grown_trans (grown_trans (grown_trans (grown_trans (grown_trans (grown_trans (grown_trans (grown_set _ g 0 _) (grown_set _ g 1 _)) (grown_set _ g 2 _)) (grown_set _ g 3 _)) (grown_set _ g 4 _)) (grown_set _ g 5 _)) (grown_set _ g 6 _)) (grown_set _ g 7 _)) (grown_set _ g 8 _)) (grown_set _ g 9 _)) (grown_set _ g 10 _)) (grown_set _ g 11 _)) (grown_set _ g 12 _)) (grown_set _ g 13 _)) (grown_set _ g 14 _)) (grown_set _ g 15 _)
end
theorem PvIn.any {w:World} {g:Nat} {x:Pv} (h:PvIn w g x) : ∃ y0 y1 y2 y3 y4 y5 y6 y7 y8 y9 y10 y11 y12 y13 y14 y15,w.cell? ⟨g,0,none⟩=some y0∧w.cell? ⟨g,1,none⟩=some y1∧w.cell? ⟨g,2,none⟩=some y2∧w.cell? ⟨g,3,none⟩=some y3∧w.cell? ⟨g,4,none⟩=some y4∧w.cell? ⟨g,5,none⟩=some y5∧w.cell? ⟨g,6,none⟩=some y6∧w.cell? ⟨g,7,none⟩=some y7∧w.cell? ⟨g,8,none⟩=some y8∧w.cell? ⟨g,9,none⟩=some y9∧w.cell? ⟨g,10,none⟩=some y10∧w.cell? ⟨g,11,none⟩=some y11∧w.cell? ⟨g,12,none⟩=some y12∧w.cell? ⟨g,13,none⟩=some y13∧w.cell? ⟨g,14,none⟩=some y14∧w.cell? ⟨g,15,none⟩=some y15∧∀ j,w.frozen? ⟨g,j,none⟩=false:=by
 obtain ⟨c0,c1,c2,c3,c4,c5,c6,c7,c8,c9,c10,c11,c12,c13,c14,c15,fr⟩:=h
 exact ⟨_,_,_,_,_,_,_,_,_,_,_,_,_,_,_,_,c0,c1,c2,c3,c4,c5,c6,c7,c8,c9,c10,c11,c12,c13,c14,c15,fr⟩
theorem stored_pv {w W:World} {g:Nat} {z:Pv} (h:PvIn W g z) (hb:Below w.heap.size w W) (hg:w.heap.size≤g) (x:Pv):PvIn (setPv W g x) g x∧Below w.heap.size w (setPv W g x) :=
 ⟨setPv_in h x,hb.grown (setPv_grown W g x) hb.size (fun j hj=>by cases hj;exact hg)⟩
theorem load_pv {w:World} {g:Nat} {x:Pv} (h:PvIn w g x):(loadVar 49 ⟨g,0,none⟩).run Tryz.prog w=.ok (.agg #[.int .i64 x.t,.slice x.pr.p x.pr.n x.pr.c,.int .i64 x.eg,.slice x.ed.p x.ed.n x.ed.c,.int .i64 x.ik,.slice x.id.p x.id.n x.id.c,.int .i64 x.am,.slice x.ad.p x.ad.n x.ad.c,.int .i64 x.np,.slice x.ns.p x.ns.n x.ns.c,.int .i64 x.nt,.slice x.nd.p x.nd.n x.nd.c,.int .i64 x.dp,.slice x.ds.p x.ds.n x.ds.c,.slice x.se.p x.se.n x.se.c,.slice x.da.p x.da.n x.da.c]) w:=by
 obtain ⟨c0,c1,c2,c3,c4,c5,c6,c7,c8,c9,c10,c11,c12,c13,c14,c15,fr⟩:=h
 simp [loadVar,go_sem,c0,c1,c2,c3,c4,c5,c6,c7,c8,c9,c10,c11,c12,c13,c14,c15,Result.andThen]
theorem ret_pv {fn:Func} {R:Ending→World→Prop} {a:Act} {w:World} {p u:Nat} {g:Nat} {x:Pv} {v:Value} (h:fn.results=#[.cell p 49,.tmp u]) (hp:a.tmps.getD p undef=.pointer (some ⟨g,0,none⟩)) (hu:a.tmps.getD u undef=v) (hd:a.defers=[])
  (hh:PvIn w g x) (hR:R (.returned (.tuple #[(.agg #[.int .i64 x.t,.slice x.pr.p x.pr.n x.pr.c,.int .i64 x.eg,.slice x.ed.p x.ed.n x.ed.c,.int .i64 x.ik,.slice x.id.p x.id.n x.id.c,.int .i64 x.am,.slice x.ad.p x.ad.n x.ad.c,.int .i64 x.np,.slice x.ns.p x.ns.n x.ns.c,.int .i64 x.nt,.slice x.nd.p x.nd.n x.nd.c,.int .i64 x.dp,.slice x.ds.p x.ds.n x.ds.c,.slice x.se.p x.se.n x.se.c,.slice x.da.p x.da.n x.da.c]),v])) w):bodyPost Tryz.prog fn R .ret a w:=by
 refine bodyPost_ret (v:=.tuple #[(.agg #[.int .i64 x.t,.slice x.pr.p x.pr.n x.pr.c,.int .i64 x.eg,.slice x.ed.p x.ed.n x.ed.c,.int .i64 x.ik,.slice x.id.p x.id.n x.id.c,.int .i64 x.am,.slice x.ad.p x.ad.n x.ad.c,.int .i64 x.np,.slice x.ns.p x.ns.n x.ns.c,.int .i64 x.nt,.slice x.nd.p x.nd.n x.nd.c,.int .i64 x.dp,.slice x.ds.p x.ds.n x.ds.c,.slice x.se.p x.se.n x.se.c,.slice x.da.p x.da.n x.da.c]),v]) ?_ hd hR
 rw [Array.getD_eq_getD_getElem?] at hp hu
 simp [results,h,hp,hu,asAddr,load_pv hh,Result.andThen]
def zeroP:Pv:=⟨0,nilV,0,nilV,0,nilV,0,nilV,0,nilV,0,nilV,0,nilV,nilV,nilV⟩
end Go.Proofs.YtgpigjoonhghhaaGreat

namespace Go.Proofs.YtgpigjoonhghhaaGreat
open Go.RowKit
set_option linter.unusedVariables false
def encA (x:Ad):List Int:=if x.f=4 then be 4 x.l else be 8 x.h++be 8 x.l
def sizeA (f:Int):Nat:=if f=4 then 4 else 16
def encO (s:Sl):List Int:=be 1 (if s.lo.f=6 then 8 else 7)++(be 1 s.p++(be 2 (if s.lo.f=6 then 40 else 16)++(be 2 s.a++(be 2 s.b++(encA s.lo++encA s.hi)))))
def encL:List Sl→List Int
 | []=>[]
 | s :: l=>encO s++encL l
def errL:List Sl→Int
 | []=>0
 | s :: l=>if checkS s≠0 then checkS s else errL l
def buildS (l:List Sl):List Int × Int :=
 if l.length=0 then ([],8) else if l.length > 16 then ([],10) else if errL l≠0 then ([],errL l) else ([(l.length:Int),0,0,0]++encL l,0)
def nAt (xs:List Int) (a k:Nat):Int:=val ((xs.drop a).take k)
def oneS (xs:List Int):Option (Sl × Nat) :=
 if xs.length<8 then none
 else if xs.getD 0 0=7∧nAt xs 2 2=16∧16≤xs.length then some (⟨xs.getD 1 0,nAt xs 4 2,nAt xs 6 2,⟨4,0,nAt xs 8 4⟩,⟨4,0,nAt xs 12 4⟩⟩,16)
 else if xs.getD 0 0=8∧nAt xs 2 2=40∧40≤xs.length then some (⟨xs.getD 1 0,nAt xs 4 2,nAt xs 6 2,⟨6,nAt xs 8 8,nAt xs 16 8⟩,⟨6,nAt xs 24 8,nAt xs 32 8⟩⟩,40)
 else none
def manyS:Nat→List Int→Option (List Sl)
 | 0,xs=>if xs.length=0 then some [] else none
 | n+1,xs=>match oneS xs with
  | none=>none
  | some (s,k)=>(manyS n (xs.drop k)).map (s :: ·)
def parseS (xs:List Int):List Sl × Int :=
 if xs.length<4 then ([],1) else if xs.getD 0 0=0 then ([],8) else if xs.getD 0 0 > 16 then ([],10)
 else match manyS (xs.getD 0 0).toNat (xs.drop 4) with
  | none=>([],4)
  | some l=>if errL l≠0 then ([],errL l) else (l,0)
theorem encA_len (x:Ad):(encA x).length=sizeA x.f:=by
 unfold encA sizeA
 split<;>simp [be_len]
theorem encO_len (s:Sl):(encO s).length=8+sizeA s.lo.f+sizeA s.hi.f:=by
 unfold encO
 simp only [List.length_append,be_len,encA_len]
 omega
theorem encA_rng (x:Ad) : ∀ z∈encA x,0≤z∧z≤255:=by
 unfold encA
 split
 ·exact be_rng _ _
 ·exact rng_append (be_rng _ _) (be_rng _ _)
theorem encO_rng (s:Sl) : ∀ z∈encO s,0≤z∧z≤255 :=
 rng_append (be_rng _ _) (rng_append (be_rng _ _) (rng_append (be_rng _ _) (rng_append (be_rng _ _) (rng_append (be_rng _ _) (rng_append (encA_rng _) (encA_rng _))))))
theorem encL_rng : ∀ (l:List Sl),∀ z∈encL l,0≤z∧z≤255
 | []=>fun z hz=>by cases hz
 | s :: l=>rng_append (encO_rng s) (encL_rng l)
theorem encL_append (l r:List Sl):encL (l++r)=encL l++encL r:=by
 induction l with
 | nil=>rfl
 | cons s l ih=>simp [encL,ih]
theorem errL_zero {l:List Sl} (h:errL l=0) : ∀ s∈l,checkS s=0:=by
 induction l with
 | nil=>intro s hs;cases hs
 | cons s l ih =>
  unfold errL at h
  split at h
  ·rename_i k;exact absurd h k
  ·rename_i k
   intro t ht
   rcases List.mem_cons.1 ht with rfl | ht
   ·apply Classical.byContradiction
    intro e
    exact k e
   ·exact ih h t ht
theorem errL_good {l:List Sl} (h : ∀ s∈l,checkS s=0):errL l=0:=by
 induction l with
 | nil=>rfl
 | cons s l ih =>
  unfold errL
  rw [if_neg (by rw [h s (by simp)];simp)]
  exact ih (fun t ht=>h t (by simp [ht]))
theorem nAt_at (u v w:List Int) (a k:Nat) (ha:u.length=a) (hk:v.length=k):nAt (u++(v++w)) a k=val v:=by
 subst ha hk
 unfold nAt
 rw [List.drop_left,List.take_left]
theorem be_val (k:Nat) (v:Int) (h0:0≤v) (h1:v<2 ^ (8*k)):val (be k v)=v:=by rw [val_be];exact Int.emod_eq_of_lt h0 h1
theorem be1 (v:Int) (h0:0≤v) (h1:v≤255):be 1 v=[v]:=by
 simp [be]
 omega
theorem one_enc {s:Sl} (h:GoodS s) (zs:List Int):oneS (encO s++zs)=some (s,(encO s).length)∧((encO s).length=16∨(encO s).length=40):=by
 have hf:=h.fam
 have hp:=h.p
 have hq:=h.q
 have hl:=encO_len s
 have v1:=h.vlo
 have v2:=h.vhi
 have f1:=h.flo
 have f2:=h.fhi
 obtain ⟨sp,sa,sb,⟨lf,lh,ll⟩,⟨hf',hh,hl'⟩⟩:=s
 simp only at *
 subst hf
 have hfam:lf=4∨lf=6:=by
  unfold validA at v1
  simp at v1
  omega
 have ha:0≤sa∧sa≤65535:=by omega
 have hb:0≤sb∧sb≤65535:=by omega
 rcases hfam with rfl | rfl
 ·have w1:lh=0∧ll<4294967296:=by
   unfold validA at v1
   simp at v1
   exact v1
  have w2:hh=0∧hl'<4294967296:=by
   unfold validA at v2
   simp at v2
   exact v2
  obtain ⟨rfl,w1⟩:=w1
  obtain ⟨rfl,w2⟩:=w2
  have e:encO ⟨sp,sa,sb,⟨4,0,ll⟩,⟨4,0,hl'⟩⟩=[7,sp]++(be 2 16++(be 2 sa++(be 2 sb++(be 4 ll++be 4 hl')))):=by
   unfold encO encA
   simp only [if_true,if_neg (show ¬ (4:Int)=6 by decide)]
   rw [be1 7 (by omega) (by omega),be1 sp hp.1 hp.2]
   rfl
  have hlen:(encO ⟨sp,sa,sb,⟨4,0,ll⟩,⟨4,0,hl'⟩⟩).length=16:=by rw [hl];rfl
  refine ⟨?_,Or.inl hlen⟩
  rw [hlen,e]
  have g0:([7,sp]++(be 2 16++(be 2 sa++(be 2 sb++(be 4 ll++be 4 hl'))))++zs)=[7,sp]++(be 2 16++(be 2 sa++(be 2 sb++(be 4 ll++(be 4 hl'++zs))))):=by simp
  rw [g0]
  have n2:nAt ([7,sp]++(be 2 16++(be 2 sa++(be 2 sb++(be 4 ll++(be 4 hl'++zs)))))) 2 2=16 :=
   (nAt_at [7,sp] (be 2 16) _ 2 2 rfl (be_len _ _)).trans (be_val 2 16 (by omega) (by decide))
  have n4:nAt ([7,sp]++(be 2 16++(be 2 sa++(be 2 sb++(be 4 ll++(be 4 hl'++zs)))))) 4 2=sa:=by
   have:=nAt_at ([7,sp]++be 2 16) (be 2 sa) (be 2 sb++(be 4 ll++(be 4 hl'++zs))) 4 2 (by simp [be_len]) (be_len _ _)
   rw [List.append_assoc] at this
   exact this.trans (be_val 2 sa ha.1 (by have:=ha.2;simp;omega))
  have n6:nAt ([7,sp]++(be 2 16++(be 2 sa++(be 2 sb++(be 4 ll++(be 4 hl'++zs)))))) 6 2=sb:=by
   have:=nAt_at ([7,sp]++(be 2 16++be 2 sa)) (be 2 sb) (be 4 ll++(be 4 hl'++zs)) 6 2 (by simp [be_len]) (be_len _ _)
   simp only [List.append_assoc] at this ⊢
   exact this.trans (be_val 2 sb hb.1 (by have:=hb.2;simp;omega))
  have n8:nAt ([7,sp]++(be 2 16++(be 2 sa++(be 2 sb++(be 4 ll++(be 4 hl'++zs)))))) 8 4=ll:=by
   have:=nAt_at ([7,sp]++(be 2 16++(be 2 sa++be 2 sb))) (be 4 ll) (be 4 hl'++zs) 8 4 (by simp [be_len]) (be_len _ _)
   simp only [List.append_assoc] at this ⊢
   exact this.trans (be_val 4 ll f1.l.1 (by simp;omega))
  have n12:nAt ([7,sp]++(be 2 16++(be 2 sa++(be 2 sb++(be 4 ll++(be 4 hl'++zs)))))) 12 4=hl':=by
   have:=nAt_at ([7,sp]++(be 2 16++(be 2 sa++(be 2 sb++be 4 ll)))) (be 4 hl') zs 12 4 (by simp [be_len]) (be_len _ _)
   simp only [List.append_assoc] at this ⊢
   exact this.trans (be_val 4 hl' f2.l.1 (by simp;omega))
  unfold oneS
  rw [if_neg (by simp [be_len];omega),if_pos ⟨by simp,n2,by simp [be_len];omega⟩,n4,n6,n8,n12]
  simp
 ·have e:encO ⟨sp,sa,sb,⟨6,lh,ll⟩,⟨6,hh,hl'⟩⟩=[8,sp]++(be 2 40++(be 2 sa++(be 2 sb++(be 8 lh++(be 8 ll++(be 8 hh++be 8 hl')))))):=by
   unfold encO encA
   simp only [if_true,if_neg (show ¬ (6:Int)=4 by decide)]
   rw [be1 8 (by omega) (by omega),be1 sp hp.1 hp.2]
   simp
  have hlen:(encO ⟨sp,sa,sb,⟨6,lh,ll⟩,⟨6,hh,hl'⟩⟩).length=40:=by rw [hl];rfl
  refine ⟨?_,Or.inr hlen⟩
  rw [hlen,e]
  have g0:([8,sp]++(be 2 40++(be 2 sa++(be 2 sb++(be 8 lh++(be 8 ll++(be 8 hh++be 8 hl'))))))++zs)=[8,sp]++(be 2 40++(be 2 sa++(be 2 sb++(be 8 lh++(be 8 ll++(be 8 hh++(be 8 hl'++zs))))))):=by simp
  rw [g0]
  generalize hX:[8,sp]++(be 2 40++(be 2 sa++(be 2 sb++(be 8 lh++(be 8 ll++(be 8 hh++(be 8 hl'++zs)))))))=X
  have p64:(2:Int) ^ (8*8)=18446744073709551616:=by decide
  have n2:nAt X 2 2=40:=by
   rw [←hX]
   exact (nAt_at [8,sp] (be 2 40) _ 2 2 rfl (be_len _ _)).trans (be_val 2 40 (by omega) (by decide))
  have key : ∀ (u v:List Int) (k a:Nat) (z:Int),X=u++(be k z++v)→u.length=a→0≤z→z<2 ^ (8*k)→nAt X a k=z:=by
   intro u v k a z hx hu h0 h1
   rw [hx]
   exact (nAt_at u (be k z) v a k hu (be_len _ _)).trans (be_val k z h0 h1)
  have n4:=key ([8,sp]++be 2 40) (be 2 sb++(be 8 lh++(be 8 ll++(be 8 hh++(be 8 hl'++zs))))) 2 4 sa (by rw [←hX];simp) (by simp [be_len]) ha.1 (by have:=ha.2;simp;omega)
  have n6:=key ([8,sp]++(be 2 40++be 2 sa)) (be 8 lh++(be 8 ll++(be 8 hh++(be 8 hl'++zs)))) 2 6 sb (by rw [←hX];simp) (by simp [be_len]) hb.1 (by have:=hb.2;simp;omega)
  have n8:=key ([8,sp]++(be 2 40++(be 2 sa++be 2 sb))) (be 8 ll++(be 8 hh++(be 8 hl'++zs))) 8 8 lh (by rw [←hX];simp) (by simp [be_len]) f1.h.1 (by rw [p64];have:=f1.h.2;simp only at this;omega)
  have n16:=key ([8,sp]++(be 2 40++(be 2 sa++(be 2 sb++be 8 lh)))) (be 8 hh++(be 8 hl'++zs)) 8 16 ll (by rw [←hX];simp) (by simp [be_len]) f1.l.1 (by rw [p64];have:=f1.l.2;simp only at this;omega)
  have n24:=key ([8,sp]++(be 2 40++(be 2 sa++(be 2 sb++(be 8 lh++be 8 ll))))) (be 8 hl'++zs) 8 24 hh (by rw [←hX];simp) (by simp [be_len]) f2.h.1 (by rw [p64];have:=f2.h.2;simp only at this;omega)
  have n32:=key ([8,sp]++(be 2 40++(be 2 sa++(be 2 sb++(be 8 lh++(be 8 ll++be 8 hh)))))) zs 8 32 hl' (by rw [←hX];simp) (by simp [be_len]) f2.l.1 (by rw [p64];have:=f2.l.2;simp only at this;omega)
  have hxl:X.length=40+zs.length:=by rw [←hX];simp [be_len];omega
  have d0:X.getD 0 0=8:=by rw [←hX];rfl
  have d1:X.getD 1 0=sp:=by rw [←hX];rfl
  unfold oneS
  rw [if_neg (by omega),if_neg (by rw [d0];omega),if_pos ⟨d0,n2,by omega⟩,d1,n4,n6,n8,n16,n24,n32]
theorem many_enc : ∀ (l:List Sl),(∀ s∈l,GoodS s)→manyS l.length (encL l)=some l
 | [],_=>rfl
 | s :: l,h=>by
  have h1:=(one_enc (h s (by simp)) (encL l)).1
  show manyS (l.length+1) (encO s++encL l)=_
  unfold manyS
  rw [h1]
  simp only [List.drop_left]
  rw [many_enc l (fun t ht=>h t (by simp [ht]))]
  rfl
theorem parse_encS (l:List Sl) (h : ∀ s∈l,GoodS s) (h1:1≤l.length) (h2:l.length≤16) (r1 r2 r3:Int):parseS ([(l.length:Int),r1,r2,r3]++encL l)=(l,0):=by
 unfold parseS
 have e:([(l.length:Int),r1,r2,r3]++encL l).getD 0 0=l.length:=rfl
 rw [if_neg (by simp),e,if_neg (by omega),if_neg (by omega)]
 rw [show List.drop 4 ([(l.length:Int),r1,r2,r3]++encL l)=encL l from rfl,Int.toNat_natCast,many_enc l h]
 simp only
 rw [if_neg (by rw [errL_good (fun s hs=>(h s hs).check)];simp)]
end Go.Proofs.YtgpigjoonhghhaaGreat

namespace Go.Proofs.YtgpigjoonhghhaaGreat
structure Is {α:Type} (a b:α):Prop where
 eq:a=b
end Go.Proofs.YtgpigjoonhghhaaGreat

namespace Go.Proofs.YtgpigjoonhghhaaGreat
open Go.RowKit
set_option linter.unusedVariables false
def spiZ (k:Int):Nat:=if k=2∨k=3 then 4 else 0
theorem spiSize_any (k:Int) (w:World):Calls Tryz.prog 115 #[.int .i64 k] w fun e w'=>e=.returned (.int .i64 (spiZ k))∧w=w':=by
 by_cases h2:k=2
 ·subst h2
  go_enter Tryz.func115,Tryz.ntmps115
  go_wp2
  go_ret
  exact ⟨rfl,rfl⟩
 by_cases h3:k=3
 ·subst h3
  go_enter Tryz.func115,Tryz.ntmps115
  go_wp2
  go_ret
  exact ⟨rfl,rfl⟩
 ·have e:spiZ k=0:=by unfold spiZ;rw [if_neg (by omega)]
  rw [e]
  have e2:(k == 2)=false:=by simpa using h2
  have e3:(k == 3)=false:=by simpa using h3
  clear e h2 h3
  go_enter Tryz.func115,Tryz.ntmps115
  go_wp2
  go_ret
  exact ⟨rfl,rfl⟩
def notifyE (np nt size:Int):Int:=if nt<0∨65535<nt∨np<0∨3<np then 5 else if size=spiZ np then 0 else 20
set_option maxHeartbeats 1600000 in
set_option maxRecDepth 100000 in
theorem checkNotify_any (np nt size:Int) (ps pd:Option Addr) (ns cs nd cd:Nat) (w:World) (E:Int) (hE:notifyE np nt size=E) :
  Calls Tryz.prog 108 #[.agg #[.int .i64 np,.slice ps ns cs,.int .i64 nt,.slice pd nd cd],.int .i64 size] w fun e w'=>e=.returned (.int .i64 E)∧Below w.heap.size w w':=by
 have HB:=hidden ((Below.refl w.heap.size w).alloc (Nat.le_refl _) (.cells #[.int .i64 np,.slice ps ns cs,.int .i64 nt,.slice pd nd cd] 43))
 have HS:=hidden (fun W=>spiSize_any np W)
 unfold notifyE at hE
 by_cases h1:nt<0
 ·rw [if_pos (Or.inl h1)] at hE
  subst hE
  go_enter Tryz.func108,Tryz.ntmps108
  go_wp2
  go_ret
  exact ⟨rfl,HB.out⟩
 by_cases h2:65535<nt
 ·rw [if_pos (Or.inr (Or.inl h2))] at hE
  subst hE
  go_enter Tryz.func108,Tryz.ntmps108
  go_wp2
  go_ret
  exact ⟨rfl,HB.out⟩
 by_cases h3:np<0
 ·rw [if_pos (Or.inr (Or.inr (Or.inl h3)))] at hE
  subst hE
  go_enter Tryz.func108,Tryz.ntmps108
  go_wp2
  go_ret
  exact ⟨rfl,HB.out⟩
 by_cases h4:3<np
 ·rw [if_pos (Or.inr (Or.inr (Or.inr h4)))] at hE
  subst hE
  go_enter Tryz.func108,Tryz.ntmps108
  go_wp2
  go_ret
  exact ⟨rfl,HB.out⟩
 rw [if_neg (by omega)] at hE
 obtain ⟨Z,hZ⟩ : ∃ Z:Nat,spiZ np=Z:=⟨_,rfl⟩
 rw [hZ] at hE HS
 clear hZ
 by_cases h5:size=(Z:Int)
 ·rw [if_pos h5] at hE
  subst hE
  have e:(size != (Z:Int))=false:=by simpa using h5
  clear h5
  go_enter Tryz.func108,Tryz.ntmps108
  go_wp2_with (first
   | (go_at_call 115;(with_reducible refine (HS.out _).mono ?_);rintro e w' ⟨rfl,rfl⟩)
   | fail)
  go_ret
  exact ⟨rfl,HB.out⟩
 ·rw [if_neg h5] at hE
  subst hE
  have e:(size != (Z:Int))=true:=by simpa using h5
  clear h5
  go_enter Tryz.func108,Tryz.ntmps108
  go_wp2_with (first
   | (go_at_call 115;(with_reducible refine (HS.out _).mono ?_);rintro e w' ⟨rfl,rfl⟩)
   | fail)
  go_ret
  exact ⟨rfl,HB.out⟩
def deleteE (k size count:Int):Int:=if k≠1∧k≠2∧k≠3 then 5 else if size=spiZ k∧¬ (k=1∧count≠0) then 0 else 20
set_option maxHeartbeats 1600000 in
set_option maxRecDepth 100000 in
theorem checkDelete_any (k size count:Int) (w:World) (E:Int) (hE:deleteE k size count=E) :
  Calls Tryz.prog 109 #[.int .i64 k,.int .i64 size,.int .i64 count] w fun e w'=>e=.returned (.int .i64 E)∧w=w':=by
 have HS:=hidden (fun W=>spiSize_any k W)
 unfold deleteE at hE
 by_cases h1:k≠1∧k≠2∧k≠3
 ·rw [if_pos h1] at hE
  subst hE
  have e1:(k == 1)=false:=by simpa using h1.1
  have e2:(k != 2)=true:=by simpa using h1.2.1
  have e3:(k != 3)=true:=by simpa using h1.2.2
  clear h1 HS
  go_enter Tryz.func109,Tryz.ntmps109
  go_wp2
  go_ret
  exact ⟨rfl,rfl⟩
 rw [if_neg h1] at hE
 obtain ⟨Z,hZ⟩ : ∃ Z:Nat,spiZ k=Z:=⟨_,rfl⟩
 rw [hZ] at hE HS
 clear hZ
 have hk:k=1∨k=2∨k=3:=by omega
 clear h1
 by_cases h5:size=(Z:Int)
 ·have e:(size != (Z:Int))=false:=by simpa using h5
  by_cases h6:k=1∧count≠0
  ·rw [if_neg (fun h=>h.2 h6)] at hE
   subst hE
   obtain ⟨rfl,h6⟩:=h6
   have e6:(count != 0)=true:=by simpa using h6
   clear h5 h6 hk
   go_enter Tryz.func109,Tryz.ntmps109
   go_wp2_with (first
    | (go_at_call 115;(with_reducible refine (HS.out _).mono ?_);rintro e w' ⟨rfl,rfl⟩)
    | fail)
   go_ret
   exact ⟨rfl,rfl⟩
  ·rw [if_pos ⟨h5,h6⟩] at hE
   subst hE
   clear h5
   rcases hk with rfl | rfl | rfl
   ·have e6:(count != 0)=false:=by simp;omega
    clear h6
    go_enter Tryz.func109,Tryz.ntmps109
    go_wp2_with (first
     | (go_at_call 115;(with_reducible refine (HS.out _).mono ?_);rintro e w' ⟨rfl,rfl⟩)
     | fail)
    go_ret
    exact ⟨rfl,rfl⟩
   all_goals
    clear h6
    go_enter Tryz.func109,Tryz.ntmps109
    go_wp2_with (first
     | (go_at_call 115;(with_reducible refine (HS.out _).mono ?_);rintro e w' ⟨rfl,rfl⟩)
     | fail)
    go_ret
    exact ⟨rfl,rfl⟩
 ·have e:(size != (Z:Int))=true:=by simpa using h5
  rw [if_neg (fun h=>h5 h.1)] at hE
  subst hE
  clear h5
  rcases hk with rfl | rfl | rfl
  all_goals
   go_enter Tryz.func109,Tryz.ntmps109
   go_wp2_with (first
    | (go_at_call 115;(with_reducible refine (HS.out _).mono ?_);rintro e w' ⟨rfl,rfl⟩)
    | fail)
   go_ret
   exact ⟨rfl,rfl⟩
end Go.Proofs.YtgpigjoonhghhaaGreat

namespace Go.Proofs.YtgpigjoonhghhaaGreat
open Go.RowKit
set_option linter.unusedVariables false
structure Sb where
 p:Option Addr
 n:Nat
 c:Nat
 xs:List Int
def KSb:KindR Sb where
 e:=22
 k:=1
 cs x:=[.slice x.p x.n x.c]
 len _:=rfl
 one x u hu:=by
  simp at hu
  subst hu
  rfl
 pos:=by decide
def DSb:ReadN Sb where
 ok w x:=Byt w x.p x.n x.c x.xs
 keep h hk:=h.keep hk
def NSb:NestR Sb where
 ts:=[5]
 ok w base x:=Bod w base x.p x.n x.c x.xs
 keep h hg ho:=h.grown hg (fun r hr=>(ho r hr).imp id (fun h2 cur fz e=>h2 cur _ fz e (by simp)))
 mono h hb:=h.mono hb
theorem Tryz.infoSb:(Tryz.prog.info? 22).map (fun i=>(i.zero,i.size,i.bytes))=some (some (.slice none 0 0),1,24):=by kernel_rfl
theorem knownSb:KnownR Tryz.prog KSb 44 24:=by
 refine ⟨Tryz.underlying44,?_⟩
 obtain ⟨i0,hi,hz0,hz1,hz2⟩:=info_parts Tryz.infoSb
 exact ⟨i0,_,hi,hz0,hz1,hz2,rfl⟩
theorem srcSb (w:World) (x:Sb) (T:TypeId):SrcG KSb (w.alloc (.cells #[.slice x.p x.n x.c] T)) (some ⟨w.heap.size,0,none⟩) 1 [x]:=SrcG.new KSb w [x] T
theorem RowG.sbs {w:World} {base:Nat} {v:Value} {l:List Sb} (h:RowG KSb NSb w base v l) {n:Nat} (hn:l.length=n) : ∃ p c,v=.slice p n c∧RdG KSb DSb w p n c l:=h.rd hn (fun x hx=>hx.byt)
theorem RdG.sb_cons {w:World} {p:Option Addr} {n c j:Nat} {l:List Sb} (h:RdG KSb DSb w p n c l) (hj:j<n) :
  ∃ g x,p=some ⟨g,0,none⟩∧l[j]?=some x∧l.drop j=x :: l.drop (j+1)∧Byt w x.p x.n x.c x.xs∧w.cell? ⟨g,j,none⟩=some (.slice x.p x.n x.c):=by
 have hl:j<l.length:=by rw [h.len];exact hj
 obtain ⟨g,e,hc,hd⟩:=h.cell j hl
 have:=hc 0 _ rfl
 simp only [KSb,Nat.mul_one,Nat.add_zero] at this
 exact ⟨g,l[j],e,List.getElem?_eq_getElem hl,List.drop_eq_getElem_cons hl,hd,this⟩
end Go.Proofs.YtgpigjoonhghhaaGreat

namespace Go.Proofs.YtgpigjoonhghhaaGreat
open Go.RowKit
set_option linter.unusedVariables false
set_option maxHeartbeats 400000 in
theorem clone_any (p:Option Addr) (n c:Nat) (xs:List Int) (w:World) (h:Byt w p n c xs) (hb:n≤140737488355328) :
  Calls Tryz.prog 99 #[.slice p n c] w fun e w'=>∃ v,e=.returned v∧Own w' w.heap.size 5 v xs∧Below w.heap.size w w':=by
 have hl:=h.len
 have q:=fun (w:World) (a:Option Addr) (n c n' c':Nat)=>Lib.run_eql_slice_nil (P:=Tryz.prog) w 22 _ a n c n' c' Tryz.underlying22
 cases p with
 | none =>
  have hn:n=0:=by
   rcases Nat.eq_zero_or_pos n with h0 | h0
   ·exact h0
   ·obtain ⟨b,o,h,_⟩:=h.at_ h0
    cases h
  subst hn
  obtain rfl:xs=[]:=List.eq_nil_of_length_eq_zero hl
  clear h hl
  go_enter Tryz.func99,Tryz.ntmps99
  go_wp2
  go_ret
  exact ⟨_,rfl,Own.nil _ _ _,Below.refl _ _⟩
 | some a =>
  obtain ⟨i0,hi,hz0,hz1,hz2⟩:=info_parts Tryz.infoByte
  have H:=hidden h
  clear h
  go_enter Tryz.func99,Tryz.ntmps99
  go_wp2_with (at_builtin;refine wpList_append_byt _ rfl _ _ 22 rfl w.heap.size 5 i0 (.int .u8 0) Tryz.underlying22 hi hz0 hz1 hz2 rfl _ _ rfl (Own.made w w.heap.size 5 (Nat.le_refl _)) _ _ _ _ _ rfl (H.out.alloc _) rfl ?c1 ?c2 ?_)
  case c1=>simp;omega
  case c2=>simp
  intro v w1 hown hg
  go_wp2
  go_ret
  exact ⟨v,rfl,hown,((Below.refl _ w).alloc (Nat.le_refl _) _).grown hg (by simp) (by intro k hk;simp [Value.ownBlock] at hk;omega)⟩
end Go.Proofs.YtgpigjoonhghhaaGreat

namespace Go.Proofs.YtgpigjoonhghhaaGreat
open Go.RowKit
set_option linter.unusedVariables false
def BytesPut (w:World) (xs:List Int) (e:Ending) (w':World):Prop:=∃ v,e=.returned v∧Own w' w.heap.size 5 v xs∧Below w.heap.size w w'
end Go.Proofs.YtgpigjoonhghhaaGreat

namespace Go.Proofs.YtgpigjoonhghhaaGreat
open Go.RowKit
set_option linter.unusedVariables false
set_option maxHeartbeats 800000 in
theorem rcompare_any (p q:Option Addr) (n c m d:Nat) (xs ys:List Int) (w:World) (h:Byt w p n c xs) (k:Byt w q m d ys) :
  Calls Tryz.prog 91 #[.slice p n c,.slice q m d] w fun e w'=>e=.returned (.int .i64 (cmpR xs ys))∧∃ r,w'=w.drewN r:=by
 have hln:=h.le
 have hlm:=k.le
 have HX:=hidden h.len
 have HY:=hidden k.len
 have HC:=hidden (fun j (hj:j<n)=>(show ∃ b o,p=some ⟨b,o,none⟩∧w.cell? ⟨b,o+j,none⟩=some (.int .u8 (xs.getD j 0)) by
  obtain ⟨b,o,e,hc⟩:=h.at_ (by omega)
  exact ⟨b,o,e,hc j hj⟩))
 have HD:=hidden (fun j (hj:j<m)=>(show ∃ b o,q=some ⟨b,o,none⟩∧w.cell? ⟨b,o+j,none⟩=some (.int .u8 (ys.getD j 0)) by
  obtain ⟨b,o,e,hc⟩:=k.at_ (by omega)
  exact ⟨b,o,e,hc j hj⟩))
 have HR:=hidden h.rng
 have HS:=hidden k.rng
 clear h k
 go_enter Tryz.func91,Tryz.ntmps91
 go_wp2
 go_loopw [5] (fun i wr=>∃ j:Nat,j≤n∧j≤m∧i=.int .i64 j∧cmpR xs ys=cmpR (xs.drop j) (ys.drop j)∧∃ r,wr=w.drewN r) (fun i _=>n - (intOf i).toNat)
 case atStart=>exact ⟨0,by omega,by omega,rfl,rfl,0,rfl⟩
 case round =>
  obtain ⟨j,hjn,hjm,rfl,he,r,rfl⟩:=hrel
  by_cases h1:j<n
  ·by_cases h2:j<m
   ·obtain ⟨b,o,rfl,hc1⟩:=HC.out j h1
    obtain ⟨b',o',rfl,hc2⟩:=HD.out j h2
    have hs:=cmpR_step xs ys j (by rw [HX.out];exact h1) (by rw [HY.out];exact h2) he
    have r1:=rng_getD HR.out j
    have r2:=rng_getD HS.out j
    clear he
    generalize xs.getD j 0=x at *
    generalize ys.getD j 0=y at *
    by_cases hl:x<y
    ·have E:=hidden (hs.1 hl)
     clear hs
     go_wp2
     go_quiet (fail)
     go_wp2
     go_ret
     refine ⟨by rw [E.out];rfl,?_⟩
     simp only [World.drewN_drewN]
     exact ⟨_,rfl⟩
    ·by_cases hg:y<x
     ·have E:=hidden (hs.2.1 hg)
      clear hs
      go_wp2
      go_quiet (fail)
      go_wp2
      go_quiet (fail)
      go_wp2
      go_ret
      refine ⟨by rw [E.out];rfl,?_⟩
      simp only [World.drewN_drewN]
      exact ⟨_,rfl⟩
     ·have E:=hidden (hs.2.2 (by omega))
      clear hs
      go_wp2
      go_quiet (fail)
      go_wp2
      go_quiet (fail)
      go_wp2
      go_roundw
      case rel=>exact ⟨j+1,by omega,by omega,by go_num,E.out,_,rfl⟩
      case measure=>simp [intOf];omega
   ·have E:=hidden (cmpR_end xs ys j (by rw [HX.out,HY.out];omega) (by rw [HX.out];omega) (by rw [HY.out];omega) he)
    clear he
    obtain rfl:j=m:=by omega
    have E1:=hidden (E.out.2.1 (by rw [HX.out,HY.out];omega))
    clear E HC HD
    go_wp2
    go_ret
    exact ⟨by rw [E1.out];rfl,_,rfl⟩
  ·have E:=hidden (cmpR_end xs ys j (by rw [HX.out,HY.out];omega) (by rw [HX.out];omega) (by rw [HY.out];omega) he)
   clear he
   obtain rfl:j=n:=by omega
   by_cases h2:j<m
   ·have E1:=hidden (E.out.1 (by rw [HX.out,HY.out];omega))
    clear E HC HD
    go_wp2
    go_ret
    exact ⟨by rw [E1.out];rfl,_,rfl⟩
   ·obtain rfl:j=m:=by omega
    have E1:=hidden (E.out.2.2 (by rw [HX.out,HY.out]))
    clear E HC HD
    go_wp2
    go_ret
    exact ⟨by rw [E1.out];rfl,_,rfl⟩
set_option maxHeartbeats 400000 in
theorem requal_any (p q:Option Addr) (n c m d:Nat) (xs ys:List Int) (w:World) (h:Byt w p n c xs) (k:Byt w q m d ys) :
  Calls Tryz.prog 69 #[.slice p n c,.slice q m d] w fun e w'=>e=.returned (.bool (decide (xs=ys)))∧∃ r,w'=w.drewN r:=by
 have HC:=hidden (rcompare_any p q n c m d xs ys w h k)
 have he:decide (xs=ys)=(cmpR xs ys == 0):=by
  rw [Bool.eq_iff_iff,decide_eq_true_eq,beq_iff_eq]
  exact ⟨fun e=>by rw [e,cmpR_refl],cmpR_eq xs ys⟩
 have HE:=hidden he
 clear h k he
 go_enter Tryz.func69,Tryz.ntmps69
 go_wp2_with (go_at_call 91;refine HC.out.mono ?_;rintro e w' ⟨rfl,r,rfl⟩)
 go_ret
 exact ⟨by rw [HE.out];rfl,_,rfl⟩
end Go.Proofs.YtgpigjoonhghhaaGreat

namespace Go.Proofs.YtgpigjoonhghhaaGreat
open Go.RowKit
set_option linter.unusedVariables false
end Go.Proofs.YtgpigjoonhghhaaGreat

namespace Go.Proofs.YtgpigjoonhghhaaGreat
open Go.RowKit
set_option linter.unusedVariables false
def BytesOk (w:World) (r:List Int × Bool) (e:Ending) (w':World):Prop:=∃ p n c,e=.returned (.tuple #[.slice p n c,.bool r.2])∧Byt w' p n c r.1∧Below w.heap.size w w'
def BodOk (w:World) (r:List Int × Bool) (e:Ending) (w':World):Prop:=∃ p n c,e=.returned (.tuple #[.slice p n c,.bool r.2])∧Bod w' w.heap.size p n c r.1∧Below w.heap.size w w'
set_option maxHeartbeats 400000 in
theorem slice_bod (p:Option Addr) (n c:Nat) (xs:List Int) (w:World) (h:Byt w p n c xs) (hb:n≤140737488355328) (a k:Int) (ha : -9223372036854775808≤a∧a≤9223372036854775807) (hk : -9223372036854775808≤k∧k≤9223372036854775807) :
  Calls Tryz.prog 80 #[.slice p n c,.int .i64 a,.int .i64 k] w (BodOk w (pieceR xs a k)):=by
 have hn:=h.le
 by_cases hi:0≤a∧0≤k∧a+k≤n
 ·obtain ⟨a,rfl⟩:=Int.eq_ofNat_of_zero_le hi.1
  obtain ⟨k,rfl⟩:=Int.eq_ofNat_of_zero_le hi.2.1
  have hin:a+k≤n:=by omega
  have hcap:=h.cap
  have hp:=h.part a (a+k) (by omega) hin
  rw [pieceR,if_pos (by have:=h.len;omega)]
  have e1:(xs.take (a+k)).drop a=(xs.drop a).take k:=by rw [List.drop_take];congr 1;omega
  have hr : ∀ x∈(xs.drop a).take k,0≤x∧x≤255:=rng_take (rng_drop h.rng _) _
  rw [e1] at hp
  rw [show a+k - a=k by omega] at hp
  have HR:=hidden hr
  clear h hi e1 hr
  by_cases hca:c=a
  ·subst hca
   obtain rfl:k=0:=by omega
   rw [if_pos rfl,Nat.sub_self] at hp
   have HB:=hidden hp
   clear hp
   go_enter Tryz.func80,Tryz.ntmps80
   go_wp2_with (first | (go_at_call 98;refine (inside_yes _ _ _ _ _ _ (by omega) (by omega) (by omega) (by omega)).mono ?_;rintro e w' ⟨rfl,rfl⟩))
   refine (clone_any _ _ _ _ _ HB.out (by omega)).mono ?_
   rintro e w' ⟨v,rfl,hown,hbel⟩
   go_wp2
   obtain ⟨p',c',rfl,hby⟩:=hown.bod rfl HR.out
   go_ret2
   exact ⟨p',_,c',rfl,hby,hbel⟩
  ·rw [if_neg hca] at hp
   have HB:=hidden hp
   clear hp
   go_enter Tryz.func80,Tryz.ntmps80
   go_wp2_with (first | (go_at_call 98;refine (inside_yes _ _ _ _ _ _ (by omega) (by omega) (by omega) (by omega)).mono ?_;rintro e w' ⟨rfl,rfl⟩) | (go_at_call 99;refine (clone_any _ _ _ _ _ HB.out (by omega)).mono ?_;rintro e w' ⟨v,rfl,hown,hbel⟩))
   obtain ⟨p',c',rfl,hby⟩:=hown.bod rfl HR.out
   go_ret2
   exact ⟨p',_,c',rfl,hby,hbel⟩
 ·rw [pieceR,if_neg (by have:=h.len;omega)]
  clear h
  go_enter Tryz.func80,Tryz.ntmps80
  go_wp2_with (first | (go_at_call 98;refine (inside_no _ _ _ _ _ _ (by omega) (by omega) (by omega)).mono ?_;rintro e w' ⟨rfl,rfl⟩))
  go_ret2
  exact ⟨_,_,_,rfl,Bod.nil _ _ _ _ (Nat.zero_le _),Below.refl _ _⟩
end Go.Proofs.YtgpigjoonhghhaaGreat

namespace Go.Proofs.YtgpigjoonhghhaaGreat
open Go.RowKit
set_option linter.unusedVariables false
def Thrown (e:Ending):Prop:=e=.panicked [{ v:=.iface 52 (.int .i64 4),recovered:=false }]
theorem need_yes (w:World):Calls Tryz.prog 138 #[.bool true] w fun e w'=>e=.returned (.tuple #[])∧w=w':=by
 go_enter Tryz.func138,Tryz.ntmps138
 go_wp2
 go_end0
 exact ⟨rfl,rfl⟩
theorem need_no (w:World):Calls Tryz.prog 138 #[.bool false] w fun e w'=>Thrown e∧w=w':=by
 go_enter Tryz.func138,Tryz.ntmps138
 go_wp2
 exact ⟨rfl,rfl,rfl⟩
theorem need_any (w:World) (b:Bool):Calls Tryz.prog 138 #[.bool b] w fun e w'=>w=w'∧(b=true∧e=.returned (.tuple #[])∨b=false∧Thrown e):=by
 cases b
 ·exact (need_no w).mono (fun e w' ⟨h,h2⟩=>⟨h2,Or.inr ⟨rfl,h⟩⟩)
 ·exact (need_yes w).mono (fun e w' ⟨h,h2⟩=>⟨h2,Or.inl ⟨rfl,h⟩⟩)
theorem mark_any (more:Int) (b:Bool) (w:World):Calls Tryz.prog 139 #[.int .i64 more,.bool b] w fun e w'=>e=.returned (.int .i64 (if b=true then more else 0))∧w=w':=by
 cases b
 all_goals
  go_enter Tryz.func139,Tryz.ntmps139
  go_wp2
  go_ret
  exact ⟨rfl,rfl⟩
structure Cu (w:World) (k:Nat) (p:Option Addr) (n c:Nat) (a:Int):Prop where
 c0:w.cell? ⟨k,0,none⟩=some (.slice p n c)
 c1:w.cell? ⟨k,1,none⟩=some (.int .i64 a)
 fr : ∀ j,w.frozen? ⟨k,j,none⟩=false
theorem Cu.lt {w:World} {k:Nat} {p:Option Addr} {n c:Nat} {a:Int} (h:Cu w k p n c a):k<w.heap.size:=World.block_lt_of_cell? w _ h.c0
theorem Cu.grown {w w':World} {k:Nat} {p:Option Addr} {n c:Nat} {a:Int} {row:Option Nat} (h:Cu w k p n c a) (hg:w.grownBy w' row) (hne:some k≠row):Cu w' k p n c a :=
 ⟨hg.cell h.c0 hne,hg.cell h.c1 hne,fun j=>(World.frozen?_of_block (a:=⟨k,j,none⟩) (hg.block k h.lt hne)).trans (h.fr j)⟩
theorem Cu.below {w w':World} {k:Nat} {p:Option Addr} {n c:Nat} {a:Int} (h:Cu w k p n c a) (hb:Below w.heap.size w w'):Cu w' k p n c a:=h.grown (row:=none) (grown_of_below hb none) (by simp)
theorem Cu.alloc {w:World} {k:Nat} {p:Option Addr} {n c:Nat} {a:Int} (h:Cu w k p n c a) (o:Obj):Cu (w.alloc o) k p n c a:=h.below ((Below.refl _ _).alloc (Nat.le_refl _) o)
theorem Cu.set_ne {w:World} {k:Nat} {p:Option Addr} {n c:Nat} {a:Int} (h:Cu w k p n c a) (g j:Nat) (v:Value) (hne:k≠g):Cu (w.setCell ⟨g,j,none⟩ v) k p n c a:=h.grown (grown_set w g j v) (by simp;exact hne)
theorem Cu.step {w:World} {k:Nat} {p:Option Addr} {n c:Nat} {a:Int} (h:Cu w k p n c a) (z:Int):Cu (w.setCell ⟨k,1,none⟩ (.int .i64 z)) k p n c z:=by
 obtain ⟨c0,c1,fr⟩:=h
 exact ⟨by go_simp,by go_simp,fun j=>by rw [World.frozen?_setCell];exact fr j⟩
theorem Cu.new (w:World) (p:Option Addr) (n c:Nat) (a:Int) (T:TypeId):Cu (w.alloc (.cells #[.slice p n c,.int .i64 a] T)) w.heap.size p n c a :=
 ⟨by go_simp,by go_simp,fun j=>by go_simp⟩
theorem grown_new {a b c:World} {row:Option Nat} {R:Nat} (h:a.grownBy b row) (k:b.grownBy c (some R)) (hR:a.heap.size≤R):a.grownBy c row :=
 ⟨k.os.trans h.os,k.tape.trans h.tape,k.output.trans h.output,Nat.le_trans h.size k.size,fun i hi hne=>(k.block i (Nat.lt_of_lt_of_le hi h.size) (by simp;omega)).trans (h.block i hi hne)⟩
def numP (xs:List Int) (a d:Nat):Int:=val ((xs.drop a).take d)
theorem num_one (xs:List Int) (a:Nat) (h:a<xs.length):numP xs a 1=xs.getD a 0:=by
 rw [numP,show (xs.drop a).take 1=[xs.getD a 0] by
  apply List.ext_getElem
  ·simp;omega
  ·intro i h1 h2
   have:i=0:=by simp at h2;omega
   subst this
   simp [List.getD_eq_getElem?_getD,List.getElem?_eq_getElem h]]
 simp [val]
theorem num_two (xs:List Int) (a:Nat) (h:a+2≤xs.length):numP xs a 2=w2 xs a:=by
 have e:(xs.drop a).take 2=[xs.getD a 0,xs.getD (a+1) 0]:=by
  apply List.ext_getElem
  ·simp;omega
  ·intro i h1 h2
   have:i=0∨i=1:=by simp at h2;omega
   rcases this with rfl | rfl<;>simp [List.getD_eq_getElem?_getD]<;>rw [List.getElem?_eq_getElem (by omega)]<;>rfl
 rw [numP,e,w2]
 simp [val]
theorem numP_bd {xs:List Int} (hr : ∀ x∈xs,0≤x∧x≤255) (a d:Nat) (hd:d≤2):0≤numP xs a d∧numP xs a d≤65535:=by
 have h1:=val_bd ((xs.drop a).take d) (rng_take (rng_drop hr _) _)
 have h2:=pow256_le (show ((xs.drop a).take d).length≤2 by simp;omega)
 have h3:(256:Int) ^ 2=65536:=by decide
 unfold numP
 omega
set_option maxHeartbeats 400000 in
theorem left_any (p:Option Addr) (n c:Nat) (w:World) (k:Nat) (a:Int) (hc:Cu w k p n c a) (hn:n≤9223372036854775807) (b:Bool) (hb:b=decide (a<n)) :
  Calls Tryz.prog 124 #[.pointer (some ⟨k,0,none⟩)] w fun e w'=>e=.returned (.bool b)∧Below w.heap.size w w':=by
 obtain ⟨c0,c1,fr⟩:=hc
 by_cases h:a<n
 all_goals
  go_enter Tryz.func124,Tryz.ntmps124
  go_wp2
  go_region
  go_wp2
  go_ret
  subst hb
  exact ⟨by simp [h],drew_below ⟨1,rfl⟩⟩
set_option maxHeartbeats 400000 in
theorem pnum_any (p:Option Addr) (n c:Nat) (xs:List Int) (w:World) (k a d:Nat) (hc:Cu w k p n c a) (h:Byt w p n c xs) (h1:1≤d) (h8:d≤2) (ha:a≤n) (v:Int) (hv:numP xs a d=v) (D:Int) (hD:D=d) :
  Calls Tryz.prog 136 #[.pointer (some ⟨k,0,none⟩),.int .i64 D] w fun e w'=>w.grownBy w' (some k)∧((a+d≤n∧e=.returned (.int .i64 v)∧Cu w' k p n c ((a+d:Nat):Int))∨(n<a+d∧Thrown e)):=by
 subst hD
 have hle:=h.le
 have hvb:=numP_bd h.rng a d h8
 rw [hv] at hvb
 have HC:=hidden hc
 obtain ⟨c0,c1,fr⟩:=hc
 by_cases hin:a+d≤n
 ·have E1:=hidden (fun m=>(number_yes p n c xs (w.drewN m) (h.below (drew_below ⟨m,rfl⟩)) a d h1 (by omega) hin).mono (R':=fun e w'=>e=.returned (.tuple #[.int .u64 v,.bool true])∧w'=w.drewN m) (fun e w' ⟨x,y⟩=>⟨by rw [x];simp only [numP] at hv;rw [hv],y.symm⟩))
  clear h hv
  go_enter Tryz.func136,Tryz.ntmps136
  go_wp2
  go_quiet ((go_at_call 79;(with_reducible exact Calls.quiet_of_same (E1.out _))))
  go_wp2_with (go_at_call 138;(with_reducible refine (need_yes _).mono ?_);rintro e w' ⟨rfl,rfl⟩)
  go_ret
  refine ⟨grown_trans (grown_drewN _ _ _) (grown_set _ k 1 _),Or.inl ⟨hin,rfl,?_⟩⟩
  have:=(HC.out.below (drew_below (B:=w.heap.size) ⟨nq,rfl⟩)).step ((a:Int)+d)
  exact this
 ·have hnum:numR xs a d=(0,false):=by rw [numR,if_neg (by have:=h.len;omega)]
  have E1:=hidden (fun m=>(number_any p n c xs (w.drewN m) (h.below (drew_below ⟨m,rfl⟩)) a d (by omega) (by omega)).mono (R':=fun e w'=>e=.returned (.tuple #[.int .u64 0,.bool false])∧w'=w.drewN m) (fun e w' ⟨x,y⟩=>⟨by rw [x,hnum],y.symm⟩))
  clear h hv hnum
  go_enter Tryz.func136,Tryz.ntmps136
  go_wp2
  go_quiet ((go_at_call 79;(with_reducible exact Calls.quiet_of_same (E1.out _))))
  go_wp2_with (go_at_call 138;(with_reducible refine (need_no _).mono ?_);rintro e w' ⟨rfl,rfl⟩)
  exact ⟨rfl,grown_drewN _ _ _,Or.inr ⟨by omega,rfl⟩⟩
set_option maxHeartbeats 800000 in
theorem ptake_any (p:Option Addr) (n c:Nat) (xs:List Int) (w:World) (k a:Nat) (hc:Cu w k p n c a) (h:Byt w p n c xs) (hb:n≤140737488355328) (ha:a≤n) (M:Int) (hM : -9223372036854775808≤M∧M≤9223372036854775807) :
  Calls Tryz.prog 137 #[.pointer (some ⟨k,0,none⟩),.int .i64 M] w fun e w'=>w.grownBy w' (some k)∧((0≤M∧a+M≤n∧∃ q m d,e=.returned (.slice q m d)∧Bod w' w.heap.size q m d ((xs.drop a).take M.toNat)∧Cu w' k p n c (a+M))∨(¬ (0≤M∧a+M≤n)∧Thrown e)):=by
 have hle:=h.le
 have hlen:=h.len
 have HC:=hidden hc
 obtain ⟨c0,c1,fr⟩:=hc
 have HX:=hidden h
 have E1:=hidden (fun (w:World) (h:Byt w p n c xs)=>slice_bod p n c xs w h hb a M (by omega) hM)
 by_cases hin:0≤M∧a+M≤n
 ·have hp:pieceR xs a M=((xs.drop a).take M.toNat,true):=by
   rw [pieceR,if_pos (by omega),Int.toNat_natCast]
  have HP:=hidden hp
  obtain ⟨hM0,hM1⟩:=hin
  have HXD:Hid (Byt w.drew p n c xs):=hidden (HX.out.below (drew_below ⟨1,rfl⟩))
  have E2:=hidden (E1.out w.drew HXD.out)
  clear h hp
  go_enter Tryz.func137,Tryz.ntmps137
  go_wp2
  go_region_law ((go_simp;go_at_call 80;(with_reducible refine (E2.out).mono ?_);rintro e wA ⟨q,m,d,rfl,hby,hbel⟩))
  all_goals
   rw [HP.out] at hby
   have hg:w.grownBy wA (some k):=grown_trans (grown_drewN w 1 _) (grown_of_below hbel _)
   have HCA:Hid (Cu wA k p n c a):=hidden ((HC.out.below (w':=w.drew) (drew_below ⟨1,rfl⟩)).below hbel)
   have c0:=HCA.out.c0
   have c1:=HCA.out.c1
   have fr:=HCA.out.fr
   rw [HP.out]
   go_wp2_with (go_at_call 138;(with_reducible refine (need_yes _).mono ?_);rintro e w' ⟨rfl,rfl⟩)
   go_ret
   refine ⟨grown_trans hg (grown_set _ k 1 _),Or.inl ⟨hM0,hM1,q,m,d,rfl,(hby.mono (by simp)).grown (grown_set _ k 1 _) (OffB.low (by have:=HC.out.lt;omega)),HCA.out.step _⟩⟩
 ·have hp:pieceR xs a M=([],false):=by
   rw [pieceR,if_neg (by omega)]
  have HP:=hidden hp
  have HXD:Hid (Byt w.drew p n c xs):=hidden (HX.out.below (drew_below ⟨1,rfl⟩))
  have E2:=hidden (E1.out w.drew HXD.out)
  have HIN:=hidden hin
  clear h hp hin
  go_enter Tryz.func137,Tryz.ntmps137
  go_wp2
  go_region_law ((go_simp;go_at_call 80;(with_reducible refine (E2.out).mono ?_);rintro e wA ⟨q,m,d,rfl,hby,hbel⟩))
  all_goals
   have hg:w.grownBy wA (some k):=grown_trans (grown_drewN w 1 _) (grown_of_below hbel _)
   rw [HP.out]
   go_wp2_with (go_at_call 138;(with_reducible refine (need_no _).mono ?_);rintro e w' ⟨rfl,rfl⟩)
   exact ⟨rfl,hg,Or.inr ⟨HIN.out,rfl⟩⟩
end Go.Proofs.YtgpigjoonhghhaaGreat

namespace Go.Proofs.YtgpigjoonhghhaaGreat
open Go.RowKit
open Go.Maps (Keyed IsMap)
set_option linter.unusedVariables false
set_option maxRecDepth 100000
theorem Tryz.laidOutM:laidOutB Tryz.prog=true:=by kernel_rfl
theorem Tryz.rowTr:(118:TypeId)<Tryz.prog.types.size:=of_decide_eq_true (by kernel_rfl)
theorem Tryz.wideTr:(match Tryz.prog.underlying 118 with | some (.array _ _) | some (.struct _)=>true | _=>false)=true:=by rw [Tryz.underlying118]
theorem lawTr:Keyed Tryz.prog 118:=Keyed.of_law (deep_law_laid Tryz.laidOutM (m:=2) (by omega) Tryz.rowTr (by kernel_rfl) Tryz.wideTr)
theorem Tryz.keyTypeTr:Tryz.prog.keyType 118=true:=by kernel_rfl
theorem Tryz.cellsTr:Tryz.prog.cellsOf 118=3:=by kernel_rfl
theorem Tryz.cellsInt:Tryz.prog.cellsOf 3=1:=by kernel_rfl
def keyVal (t i k:Int):Value:=.agg #[.int .i64 t,.int .i64 i,.int .i64 k]
theorem wf_of {a:Int} (h : -9223372036854775808≤a∧a≤9223372036854775807):(Lit.int .i64 a).wf=true:=WalkArith.wf_i64 (by omega)
theorem keyOf_three {P:Program} {k e:TypeId} {fs:Array Go.Field} {f0 f1 f2:Go.Field} (hk:P.underlying k=some (.struct fs)) (he:P.underlying e=some (.int .i64)) (hkt:P.keyType k=true) (hck:P.cellsOf k=3) (hce:P.cellsOf e=1) (hrow:k<P.types.size)
  (hall : fs.all (·.name != "_") = true) (hfs : fs.toList = [f0, f1, f2]) (t0 : f0.type = e) (t1 : f1.type = e) (t2 : f2.type = e) (o0 : f0.offset = 0) (o1 : f1.offset = 1) (o2 : f2.offset = 2)
  {a b c:Int} (ha:(Lit.int .i64 a).wf=true) (hb:(Lit.int .i64 b).wf=true) (hc:(Lit.int .i64 c).wf=true) : ∃ l,keyOf P k (.agg #[.int .i64 a,.int .i64 b,.int .i64 c])=some l:=by
 obtain ⟨m,hm⟩ : ∃ m,P.types.size=m+1:=Nat.exists_eq_add_one_of_ne_zero (fun e=>by rw [e] at hrow;exact Nat.not_lt_zero _ hrow)
 unfold keyOf
 rw [hk]
 simp [hkt,Value.formed,hk,hck,Program.keyLits,Value.cells,hm,he,hce,ha,hb,hc,hall,hfs,t0,t1,t2,o0,o1,o2]
theorem key_tr (t i k:Int) (h:IntT ⟨t,i,k⟩) : ∃ l,keyOf Tryz.prog 118 (keyVal t i k)=some l :=
 keyOf_three Tryz.underlying118 Tryz.underlying3 Tryz.keyTypeTr Tryz.cellsTr Tryz.cellsInt Tryz.rowTr (by simp) rfl rfl rfl rfl rfl rfl rfl (wf_of h.1) (wf_of h.2.1) (wf_of h.2.2)
structure SeenD (D:DataW Unit) (ts:List Tr):Prop where
 map:IsMap D
 at_ : ∀ (t i k:Int) (l:Lit),keyOf Tryz.prog 118 (keyVal t i k)=some l→D.atKey l (.lit (.bool false))=.lit (.bool (decide ((⟨t,i,k⟩:Tr)∈ts)))
def Seen (w:World) (b:Nat) (ts:List Tr):Prop:=∃ D:DataW Unit,w.ownsMap Tryz.prog 118 (plainElem Tryz.prog 4) b ts.length D∧SeenD D ts
theorem Seen.made (w:World):Seen (w.alloc (.map #[] 0)) w.heap.size []:=⟨_,World.ownsMap_made _ _ _ _,⟨[],rfl⟩,fun t i k l h=>by simp [DataW.atKey]⟩
theorem Seen.lt {w:World} {b:Nat} {ts:List Tr} (h:Seen w b ts):b<w.heap.size:=by
 obtain ⟨D,h1,_⟩:=h
 exact h1.lt
theorem Seen.grown {w w':World} {b:Nat} {ts:List Tr} {row:Option Nat} (h:Seen w b ts) (hg:w.grownBy w' row) (hne:some b≠row):Seen w' b ts:=by
 obtain ⟨D,h1,h2⟩:=h
 exact ⟨D,h1.kept hg hne,h2⟩
theorem Seen.notCells {w:World} {b:Nat} {ts:List Tr} (h:Seen w b ts) (cur:Array Value) (e:TypeId) (fz:Nat × Nat):w.heap[b]?≠some (.cells cur e fz):=by
 obtain ⟨D,⟨es,clock,h1,_⟩,_⟩:=h
 rw [h1]
 simp
theorem Tryz.zeroBool (w:World):(zeroValue 4).run Tryz.prog w=.ok (.bool false) w:=by kernel_rfl
theorem Seen.look {w:World} {b:Nat} {ts:List Tr} (h:Seen w b ts) (t i k:Int) (hi:IntT ⟨t,i,k⟩) (c:Bool) (hc:c=decide ((⟨t,i,k⟩:Tr)∈ts)) :
  (Instr.lookup 116 (.map (some b)) (.agg #[.int .i64 t,.int .i64 i,.int .i64 k]) false).run Tryz.prog w=.ok (.bool c) w:=by
 obtain ⟨D,h1,h2⟩:=h
 obtain ⟨l,hl⟩:=key_tr t i k hi
 obtain ⟨v,ps,hrun,hv⟩:=h1.lookup lawTr Tryz.underlying116 (Tryz.zeroBool w) (plainElem_bool Tryz.underlying4 false) hl
 rw [h2.at_ t i k l hl] at hv
 have:v=.bool c:=by
  unfold plainElem at hv
  rw [Tryz.underlying4] at hv
  cases v<;>simp at hv
  rw [hv.1,hc]
 rw [←this]
 exact hrun
theorem SeenD.put {D:DataW Unit} {ts:List Tr} (h:SeenD D ts) (t i k:Int) (l:Lit) (hl:keyOf Tryz.prog 118 (keyVal t i k)=some l):SeenD (D.put l (.lit (.bool true))) (ts++[⟨t,i,k⟩]):=by
 refine ⟨h.map.put _ _,fun t' i' k' l' hl'=>?_⟩
 by_cases he:l'=l
 ·subst he
  rw [Maps.atKey_put_same h.map (lawTr.key hl)]
  have:=lawTr.inj hl hl'
  simp [keyVal] at this
  obtain ⟨rfl,rfl,rfl⟩:=this
  simp
 ·rw [Maps.atKey_put_other he,h.at_ t' i' k' l' hl']
  have hne:(⟨t',i',k'⟩:Tr)≠⟨t,i,k⟩:=by
   intro e
   simp at e
   obtain ⟨rfl,rfl,rfl⟩:=e
   rw [hl] at hl'
   simp at hl'
   exact he hl'.symm
  simp [hne]
theorem wpList_seen (w:World) {ops:Array Oper} {rest:List Oper} {o:Oper} {a:Act} {Q:Exit→Act→World→Prop} (hg:o.guard=none) (m x v:Operand) (hop:o.op=Op.mapUpdate 116 m x v)
  (b:Nat) (ts:List Tr) (h:Seen w b ts) (hn:ts.length<maxLen) (hm:a.eval m=.map (some b)) (t i k:Int) (hx:a.eval x=.agg #[.int .i64 t,.int .i64 i,.int .i64 k]) (hv:a.eval v=.bool true) (hi:IntT ⟨t,i,k⟩)
  (hK : ∀ w',Seen w' b (ts++[⟨t,i,k⟩])→w.grownBy w' (some b)→wpList Tryz.prog ops Q rest (a.put o.dst undef) w'):wpList Tryz.prog ops Q (o :: rest) a w:=by
 obtain ⟨D,h1,h2⟩:=h
 obtain ⟨l,hl⟩:=key_tr t i k hi
 refine wpList_mapUpdate_own w hg m x v _ hop _ _ lawTr Tryz.underlying116 _ b _ D hm h1 hn _ _ l hx hv hl _ [] (plainElem_bool Tryz.underlying4 true) ?_
 intro w' h3 h4
 exact hK w' ⟨_,by simpa using h3,h2.put t i k l hl⟩ h4
end Go.Proofs.YtgpigjoonhghhaaGreat

namespace Go.Proofs.YtgpigjoonhghhaaGreat
open Go.RowKit
set_option linter.unusedVariables false
theorem Own.kept_row {w w':World} {base:Nat} {e:TypeId} {v:Value} {xs:List Int} {k:Nat} (h:Own w base e v xs) (hg:w.grownBy w' (some k)) (hk:k<base):Own w' base e v xs :=
 World.ownsRow.kept h hg (by
  rcases hv:v.ownBlock with _ | b
  ·exact Or.inl rfl
  ·have:=(h.lt b hv).1
   exact Or.inr (by simp;omega))
set_option maxHeartbeats 800000 in
theorem mbytes_any (W w:World) (k:Nat) (h:Cod W w k) (n:Nat) (hn:n≤100000) :
  Calls Tryz.prog 34 #[.pointer (some ⟨k,0,none⟩),.int .i64 n] w fun e w'=>∃ p c ys,e=.returned (.slice p n c)∧Bod w' w.heap.size p n c ys∧Cod W w' k∧w.grownBy w' (some k):=by
 obtain ⟨i0,hi,hz0,hz1,hz2⟩:=info_parts Tryz.infoByte
 have hk:=h.lt
 have H:=hidden h
 clear h
 go_enter Tryz.func34,Tryz.ntmps34
 go_wp2
 go_loopw [5,6] (fun u i wr=>∃ j:Nat,j≤n∧i=.int .i64 j∧∃ ys:List Int,ys.length=j∧(∀ x∈ys,0≤x∧x≤255)∧Own wr w.heap.size 5 u ys∧Cod W wr k∧w.grownBy wr (some k)) (fun _ i _=>n - (intOf i).toNat)
 case atStart=>exact ⟨0,by omega,rfl,[],rfl,by simp,Own.nil _ _ _,H.out,grown_refl _ _⟩
 case round =>
  obtain ⟨j,hj,rfl,ys,hl,hr,ho,hc,hg⟩:=hrel
  have HO:=hidden ho
  have HR:=hidden hr
  have HC:=hidden hc
  have HG:=hidden hg
  clear ho hr hc hg H
  by_cases hlt:j<n
  ·go_wp2_with (go_at_call 10;refine (next_any W _ k HC.out _ ?_).mono ?_;omega)
   rintro e w2 ⟨r,rfl,r0,r1,hc,hg⟩
   have HO2:=hidden (HO.out.kept_row hg hk)
   have HC2:=hidden hc
   have HG2:=hidden (grown_trans HG.out hg)
   clear hc hg HO HC HG
   go_wp2_with (at_builtin;go_loud (refine wpList_append_byt _ rfl _ _ 22 rfl w.heap.size 5 i0 (.int .u8 0) Tryz.underlying22 hi hz0 hz1 hz2 rfl _ _ rfl (HO2.out.alloc _) _ _ _ _ _ rfl (one_byte _ _ ((r+j*7) % 256) ?c0 ?c1) rfl ?c2 ?c3 ?_))
   case c0=>omega
   case c1=>rw [World.cell?_alloc_at _ _ _ _ rfl];rfl
   case c2=>omega
   case c3=>have:=HG2.out.size;simp;omega
   intro u w4 hown hg
   have HC4:=hidden ((HC2.out.alloc _).grown hg (fun e=>by have:=(HO2.out.lt k e.symm).1;omega) (fun j hj=>by have:=(HO2.out.lt j hj).1;have:=HC2.out.bel.size;have:=HC2.out.base;omega))
   have HG4:=hidden (grown_own (grown_alloc_new HG2.out _) hg (fun j hj=>(HO2.out.lt j hj).1))
   have HO4:=hidden hown
   clear hown hg HO2 HC2 HG2
   go_wp2
   go_roundw
   case rel=>exact ⟨j+1,by omega,by go_num,_,by simp [hl],rng_append HR.out (by intro z hz;simp at hz;omega),HO4.out,HC4.out,HG4.out⟩
   case measure=>simp [intOf];omega
  ·obtain rfl:j=n:=by omega
   obtain ⟨p,c,rfl,hb⟩:=HO.out.bod hl HR.out
   have HB:=hidden hb
   clear hb HO HR
   go_wp2
   go_ret
   exact ⟨p,c,ys,rfl,HB.out,HC.out,HG.out⟩
end Go.Proofs.YtgpigjoonhghhaaGreat

namespace Go.Proofs.YtgpigjoonhghhaaGreat
open Go.RowKit
set_option linter.unusedVariables false
def BytesNew (w:World) (xs:List Int) (e:Ending) (w':World):Prop:=∃ v,e=.returned v∧Own w' w.heap.size 5 v xs∧Below w.heap.size w w'
set_option maxHeartbeats 400000 in
set_option maxRecDepth 100000 in
theorem rput_yes (p:Option Addr) (n c:Nat) (xs:List Int) (w:World) (h:Byt w p n c xs) (hb:n≤140737488355000) (v:Int) (hv:0≤v∧v≤18446744073709551615) (k:Nat) (h1:1≤k) (h8:k≤8) :
  Calls Tryz.prog 20 #[.slice p n c,.int .u64 v,.int .i64 k] w (BytesNew w (xs++be k v)):=by
 have hn:=h.le
 have hl:=h.len
 obtain ⟨i0,hi,hz0,hz1,hz2⟩:=info_parts Tryz.infoByte
 have H:=hidden h
 clear h
 go_enter Tryz.func20,Tryz.ntmps20
 go_wp2_with (at_builtin;refine wpList_append_byt _ rfl _ _ 22 rfl w.heap.size 5 i0 (.int .u8 0) Tryz.underlying22 hi hz0 hz1 hz2 rfl _ _ rfl (Own.nil w w.heap.size 5) _ _ _ _ _ rfl H.out rfl ?c1 (Nat.le_refl _) ?_)
 case c1=>first | omega | (simp;omega)
 intro u w1 hown hg
 have hbel:=(Below.refl w.heap.size w).grown hg (Nat.le_refl _) (by intro k hk;simp [Value.ownBlock] at hk)
 clear hg
 go_wp2
 go_loopw [7,8] (fun u i wr=>∃ j:Nat,j≤k∧i=.int .i64 ((j:Int) - 1)∧∃ ys,ys++be j v=xs++be k v∧Own wr w.heap.size 5 u ys∧Below w.heap.size w wr) (fun _ i _=>(intOf i+1).toNat)
 case atStart=>exact ⟨k,Nat.le_refl _,rfl,xs,rfl,hown,hbel⟩
 case round =>
  obtain ⟨j,hj,rfl,ys,hys,ho,hbl⟩:=hrel
  by_cases hpos:1≤j
  ·obtain ⟨j,rfl⟩ : ∃ m,j=m+1:=⟨j - 1,by omega⟩
   have hlen:ys.length≤n+8:=by
    have:=congrArg List.length hys
    simp only [List.length_append,be_len] at this
    omega
   have HY:=hidden hys
   have HO:=hidden ho
   clear hys ho H
   go_wp2_with (at_builtin;go_loud (refine wpList_append_byt _ rfl _ _ 22 rfl w.heap.size 5 i0 (.int .u8 0) Tryz.underlying22 hi hz0 hz1 hz2 rfl _ _ rfl (HO.out.alloc _) _ _ _ _ _ rfl (one_byte _ _ (v / 2 ^ (8*j) % 256) ?c0 ?c1) rfl ?c2 ?c3 ?_))
   case c0=>exact byte_rng _
   case c1=>rw [World.cell?_alloc_at _ _ _ _ rfl];rfl
   case c2=>omega
   case c3=>have:=hbl.size;simp;omega
   intro u' w2 hown2 hg2
   have HB2:=hidden ((hbl.alloc hbl.size _).grown hg2 (by have:=hbl.size;simp;omega) (fun g hg=>(HO.out.lt g hg).1))
   clear hbl hg2 hbel
   go_wp2
   go_roundw
   case rel=>exact ⟨j,by omega,rfl,_,be_next _ _ _ _ HY.out,hown2,HB2.out⟩
   case measure=>simp [intOf]<;>omega
  ·obtain rfl:j=0:=by omega
   have e1:ys=xs++be k v:=by simpa [be] using hys
   subst e1
   have HO:=hidden ho
   have HB:=hidden hbl
   clear ho hbl hys H hbel hown
   go_wp2
   go_ret
   exact ⟨_,rfl,HO.out,HB.out⟩
end Go.Proofs.YtgpigjoonhghhaaGreat

namespace Go.Proofs.YtgpigjoonhghhaaGreat
set_option linter.unusedVariables false
structure Raw where
 k:Int
 c:Bool
 b:List Int
 deriving DecidableEq
def lastK (k:Int):Bool:=k == 46 || k == 53
def lenC (xs:List Int):Int:=xs.getD 2 0*256+xs.getD 3 0
structure ResC where
 l:List Raw
 n:Int
 e:Int
 deriving DecidableEq
def failC (e:Int):ResC:=⟨[],0,e⟩
def preC (out:List Raw) (r:ResC):ResC:=if r.e≠0 then failC r.e else ⟨out++r.l,r.n,0⟩
theorem preC_nil (r:ResC) (h:r.e≠0→r=failC r.e):preC [] r=r:=by
 unfold preC
 split
 ·rename_i he;exact (h he).symm
 ·rename_i he
  have:r.e=0:=by omega
  cases r
  simp_all
theorem preC_fail (out:List Raw) (e:Int) (h:e≠0):preC out (failC e)=failC e:=by simp [preC,failC,h]
theorem preC_pre (a b:List Raw) (r:ResC):preC a (preC b r)=preC (a++b) r:=by
 unfold preC
 by_cases h:r.e=0
 ·simp [h]
 ·simp [h,failC]
def headC (kind:Int) (xs:List Int):Raw:=⟨kind,decide (128≤xs.getD 1 0),(xs.drop 4).take ((lenC xs).toNat - 4)⟩
def parseC:Nat→Int→List Int→ResC
 | left,kind,xs =>
  if kind=0 then (if xs.length≠0 then failC 2 else ⟨[],0,0⟩)
  else match left with
   | 0=>failC 10
   | left+1 =>
    if xs.length<4 then failC 1
    else if lenC xs<4∨(xs.length:Int)<lenC xs then failC 2
    else if lastK kind then (if (xs.length:Int)≠lenC xs then failC 2 else ⟨[headC kind xs],xs.getD 0 0,0⟩)
    else preC [headC kind xs] (parseC left (xs.getD 0 0) (xs.drop (lenC xs).toNat))
theorem parseC_end (left:Nat) (xs:List Int):parseC left 0 xs=if xs.length≠0 then failC 2 else ⟨[],0,0⟩:=by
 cases left<;>simp [parseC]
theorem parseC_many (kind:Int) (xs:List Int) (h:kind≠0):parseC 0 kind xs=failC 10:=by
 rw [parseC,if_neg h]
theorem parseC_more (left:Nat) (kind:Int) (xs:List Int) (h:kind≠0):parseC (left+1) kind xs =
  if xs.length<4 then failC 1
  else if lenC xs<4∨(xs.length:Int)<lenC xs then failC 2
  else if lastK kind then (if (xs.length:Int)≠lenC xs then failC 2 else ⟨[headC kind xs],xs.getD 0 0,0⟩)
  else preC [headC kind xs] (parseC left (xs.getD 0 0) (xs.drop (lenC xs).toNat)):=by
 rw [parseC,if_neg h]
def parseTop (first:Int) (xs:List Int):ResC:=if first<0∨255<first then failC 5 else parseC 40 first xs
def oneC (next:Int) (r:Raw):List Int:=[next % 256,if r.c then 128 else 0]++(be 2 ((r.b.length:Int)+4)++r.b)
def nextC (last:Int):List Raw→Int
 | []=>last
 | r :: _=>r.k
def encC (last:Int):List Raw→List Int
 | []=>[]
 | r :: l=>oneC (nextC last l) r++encC last l
def errC:List Raw→Int
 | []=>0
 | r :: l=>if r.k<1∨255<r.k then 5 else if 65531<r.b.length then 11 else if lastK r.k=true∧l≠[] then 7 else errC l
def endsC:List Raw→Bool
 | []=>false
 | [r]=>lastK r.k
 | _ :: r :: l=>endsC (r :: l)
def buildC (l:List Raw) (last:Int):Int × List Int × Int :=
 if 40<l.length then (0,[],10) else if errC l≠0 then (0,[],errC l) else if last<0∨255<last then (0,[],5)
 else if last≠0∧endsC l=false then (0,[],7) else (nextC 0 l,encC last l,0)
theorem be2 (v:Int) (h:0≤v∧v≤65535):be 2 v=[v / 256,v % 256]:=by
 simp [be]
 omega
theorem oneC_len (next:Int) (r:Raw):(oneC next r).length=r.b.length+4:=by
 simp [oneC,be_len]
 omega
theorem oneC_eq (next:Int) (r:Raw) (h:r.b.length≤65531):oneC next r=[next % 256,if r.c then 128 else 0,((r.b.length:Int)+4) / 256,((r.b.length:Int)+4) % 256]++r.b:=by
 rw [oneC,be2 _ (by omega)]
 simp
theorem oneC_le (next:Int) (r:Raw) (ys:List Int) (h:r.b.length≤65531):lenC (oneC next r++ys)=(r.b.length:Int)+4:=by
 rw [oneC_eq next r h]
 simp [lenC]
 omega
theorem one_next (next:Int) (r:Raw) (ys:List Int) (h:r.b.length≤65531):(oneC next r++ys).getD 0 0=next % 256:=by
 rw [oneC_eq next r h]
 simp
theorem one_head (next:Int) (r:Raw) (ys:List Int) (h:r.b.length≤65531):headC r.k (oneC next r++ys)=r:=by
 have hl:=oneC_le next r ys h
 rw [headC,hl,oneC_eq next r h]
 have e1:((r.b.length:Int)+4).toNat - 4=r.b.length:=by omega
 rw [e1]
 cases r with
 | mk k c b=>cases c<;>simp
theorem one_drop (next:Int) (r:Raw) (ys:List Int) (h:r.b.length≤65531):(oneC next r++ys).drop (r.b.length+4)=ys:=by
 rw [←oneC_len next r,List.drop_left]
structure OkC (l:List Raw) (last:Int):Prop where
 few:l.length≤40
 err:errC l=0
 rng:0≤last∧last≤255
 ends:last=0∨endsC l=true
theorem errC_cons {r:Raw} {l:List Raw} (h:errC (r :: l)=0):1≤r.k∧r.k≤255∧r.b.length≤65531∧(lastK r.k=true→l=[])∧errC l=0:=by
 unfold errC at h
 split at h
 ·omega
 split at h
 ·omega
 split at h
 ·omega
 ·rename_i h1 h2 h3
  refine ⟨by omega,by omega,by omega,fun hk=>?_,h⟩
  by_cases hl:l=[]
  ·exact hl
  ·exact absurd ⟨hk,hl⟩ h3
theorem parse_enc (last:Int) (hr:0≤last∧last≤255) : ∀ (l:List Raw) (left:Nat),errC l=0→l.length≤left→(last=0∨endsC l=true)→parseC left (nextC 0 l) (encC last l)=⟨l,last,0⟩:=by
 intro l
 induction l with
 | nil =>
  intro left _ _ he
  have:last=0:=by simpa [endsC] using he
  subst this
  rw [show nextC 0 ([]:List Raw)=0 from rfl,parseC_end]
  simp [encC]
 | cons r l ih =>
  intro left herr hlen hend
  obtain ⟨k1,k2,hb,hlast,herr'⟩:=errC_cons herr
  obtain ⟨left,rfl⟩ : ∃ m,left=m+1:=⟨left - 1,by simp at hlen;omega⟩
  have hll:=oneC_le (nextC last l) r (encC last l) hb
  have hln:(oneC (nextC last l) r++encC last l).length=r.b.length+4+(encC last l).length:=by rw [List.length_append,oneC_len]
  rw [show nextC 0 (r :: l)=r.k from rfl,show encC last (r :: l)=oneC (nextC last l) r++encC last l from rfl,parseC_more _ _ _ (by omega)]
  rw [if_neg (by omega),if_neg (by rw [hll,hln];omega),hll,hln,one_head _ _ _ hb,one_next _ _ _ hb]
  by_cases hk:lastK r.k=true
  ·have hl:=hlast hk
   subst hl
   rw [if_pos hk,if_neg (by simp [encC])]
   simp [nextC]
   omega
  ·rw [if_neg hk,show ((r.b.length:Int)+4).toNat=r.b.length+4 by omega,one_drop _ _ _ hb]
   have hend':last=0∨endsC l=true:=by
    rcases hend with h | h
    ·exact Or.inl h
    ·right
     cases l with
     | nil=>simp [endsC] at h;exact absurd h hk
     | cons a l=>exact h
   have hn:nextC last l % 256=nextC 0 l:=by
    cases l with
    | nil =>
     have:last=0:=by simpa [endsC] using hend'
     simp [nextC,this]
    | cons a l =>
     have:=errC_cons herr'
     simp [nextC]
     omega
   rw [hn,ih left herr' (by simp at hlen;omega) hend']
   simp [preC]
end Go.Proofs.YtgpigjoonhghhaaGreat

namespace Go.Proofs.YtgpigjoonhghhaaGreat
open Go.RowKit
set_option linter.unusedVariables false
structure RawP where
 k:Int
 c:Bool
 p:Option Addr
 n:Nat
 m:Nat
 b:List Int
def RawP.raw (x:RawP):Raw:=⟨x.k,x.c,x.b⟩
def RawP.cells (x:RawP):List Value:=[.int .i64 x.k,.bool x.c,.slice x.p x.n x.m]
def rowC:List RawP→List Value
 | []=>[]
 | x :: l=>x.cells++rowC l
theorem rowC_append (l r:List RawP):rowC (l++r)=rowC l++rowC r:=by
 induction l with
 | nil=>rfl
 | cons x l ih=>simp [rowC,ih]
theorem rowC_len (l:List RawP):(rowC l).length=l.length*3:=by
 induction l with
 | nil=>rfl
 | cons x l ih=>simp [rowC,RawP.cells,ih];omega
theorem rowC_one (l:List RawP) : ∀ u∈rowC l,u.oneCell'=true:=by
 induction l with
 | nil=>intro u hu;cases hu
 | cons x l ih =>
  intro u hu
  rw [rowC] at hu
  rcases List.mem_append.1 hu with h | h
  ·simp [RawP.cells] at h
   rcases h with rfl | rfl | rfl<;>rfl
  ·exact ih u h
theorem rowC_get (l:List RawP) (j:Nat) (hj:j<l.length):(rowC l)[j*3]?=some (.int .i64 l[j].k)∧(rowC l)[j*3+1]?=some (.bool l[j].c)∧(rowC l)[j*3+2]?=some (.slice l[j].p l[j].n l[j].m):=by
 induction l generalizing j with
 | nil=>simp at hj
 | cons x l ih =>
  cases j with
  | zero=>simp [rowC,RawP.cells]
  | succ j =>
   have h:=ih j (by simpa using hj)
   have e1:(j+1)*3=j*3+3:=by omega
   have e2:(j+1)*3+1=j*3+1+3:=by omega
   have e3:(j+1)*3+2=j*3+2+3:=by omega
   rw [e1,show j*3+3+1=j*3+1+3 by omega,show j*3+3+2=j*3+2+3 by omega]
   simpa [rowC,RawP.cells] using h
def OwnRw (w:World) (base:Nat) (e:TypeId) (v:Value) (l:List RawP):Prop:=w.ownsRow base e 3 v l.length (rowC l)
def BodR (w:World) (l:List RawP):Prop:=∀ x∈l,Byt w x.p x.n x.m x.b
theorem OwnRw.nil (w:World) (base:Nat) (e:TypeId):OwnRw w base e (.slice none 0 0) []:=World.ownsRow_nil w base e 3
theorem OwnRw.alloc {w:World} {base:Nat} {e:TypeId} {v:Value} {l:List RawP} (h:OwnRw w base e v l) (o:Obj):OwnRw (w.alloc o) base e v l:=World.ownsRow.alloc h o
theorem OwnRw.lt {w:World} {base:Nat} {e:TypeId} {v:Value} {l:List RawP} (h:OwnRw w base e v l) : ∀ k,v.ownBlock=some k→base≤k∧k<w.heap.size:=World.ownsRow.lt h
theorem OwnRw.form {w:World} {base:Nat} {e:TypeId} {v:Value} {l:List RawP} (h:OwnRw w base e v l) : ∃ p c,v=.slice p l.length c∧l.length≤c:=by
 rcases h.2 with ⟨rfl,hn⟩ | ⟨g,cap,cur,rfl,_,_,hc,_⟩
 ·exact ⟨none,0,by rw [hn],by omega⟩
 ·exact ⟨_,_,rfl,hc⟩
theorem OwnRw.at_ {w:World} {base:Nat} {e:TypeId} {v:Value} {l:List RawP} (h:OwnRw w base e v l) {n:Nat} (hn:l.length=n) (hp:0<n) :
  ∃ g c,v=.slice (some ⟨g,0,none⟩) n c∧n≤c∧c≤maxLen∧base≤g∧g<w.heap.size∧(∀ j u,(rowC l)[j]?=some u→w.cell? ⟨g,j,none⟩=some u)∧(∀ j,w.frozen? ⟨g,j,none⟩=false):=by
 subst hn
 have h0:=h
 rcases h.2 with ⟨rfl,hz⟩ | ⟨g,cap,cur,rfl,hb,hh,hnc,hm,hs,ht⟩
 ·omega
 ·refine ⟨g,cap,rfl,hnc,hm,hb,(Array.getElem?_eq_some_iff.1 hh).1,fun j u hj=>?_,fun j=>World.ownsRow.frozenAt h0 j⟩
  have:=World.ownsRow.cells h0 (g:=g) rfl j u hj
  rw [WideShapes.add_plain,Nat.zero_add] at this
  exact this
theorem BodR.keep {w w':World} {l:List RawP} (h:BodR w l) (hk : ∀ a v,w.cell? a=some v→w'.cell? a=some v):BodR w' l:=fun x hx=>(h x hx).keep hk
theorem BodR.below {w w':World} {l:List RawP} (h:BodR w l) (hb:Below w.heap.size w w'):BodR w' l:=h.keep (cell_below hb)
theorem BodR.append {w:World} {l r:List RawP} (h:BodR w l) (k:BodR w r):BodR w (l++r):=fun x hx=>(List.mem_append.1 hx).elim (h x) (k x)
theorem BodR.one {w:World} {x:RawP} (h:Byt w x.p x.n x.m x.b):BodR w [x]:=fun y hy=>by
 rw [List.mem_singleton.1 hy]
 exact h
def RawP.withK (x:RawP) (k:Int):RawP:={ x with k:=k }
def RawP.withB (x:RawP) (p:Option Addr) (n m:Nat) (b:List Int):RawP:={ x with p:=p,n:=n,m:=m,b:=b }
theorem rowC_setB (l:List RawP) (j:Nat) (p:Option Addr) (n m:Nat) (b:List Int) (hj:j<l.length):rowC (l.set j (l[j].withB p n m b))=(rowC l).set (j*3+2) (.slice p n m):=by
 induction l generalizing j with
 | nil=>simp at hj
 | cons x l ih =>
  cases j with
  | zero=>simp [rowC,RawP.cells,RawP.withB]
  | succ j =>
   have h:=ih j (by simpa using hj)
   rw [show (j+1)*3+2=j*3+2+3 by omega]
   simpa [rowC,RawP.cells] using h
theorem OwnRw.setB {w:World} {base:Nat} {e:TypeId} {g n c:Nat} {l:List RawP} (h:OwnRw w base e (.slice (some ⟨g,0,none⟩) n c) l) (hn:l.length=n) (j:Nat) (hj:j<l.length) (p:Option Addr) (a m:Nat) (b:List Int) :
  OwnRw (w.setCell ⟨g,j*3+2,none⟩ (.slice p a m)) base e (.slice (some ⟨g,0,none⟩) n c) (l.set j (l[j].withB p a m b)):=by
 subst hn
 have:=(World.ownsRow.stored h (j*3+2) (.slice p a m)).1
 unfold OwnRw
 rw [List.length_set,rowC_setB _ _ _ _ _ _ hj]
 exact this
theorem OwnRw.elem {w:World} {base:Nat} {e:TypeId} {v:Value} {l:List RawP} (h:OwnRw w base e v l) (j:Nat) (hj:j<l.length) :
  ∃ g c,v=.slice (some ⟨g,0,none⟩) l.length c∧w.cell? ⟨g,j*3,none⟩=some (.int .i64 l[j].k)∧w.cell? ⟨g,j*3+1,none⟩=some (.bool l[j].c)∧w.cell? ⟨g,j*3+2,none⟩=some (.slice l[j].p l[j].n l[j].m):=by
 obtain ⟨g,c,hv,_,_,_,_,hc,_⟩:=h.at_ rfl (by omega)
 obtain ⟨h0,h1,h2⟩:=rowC_get l j hj
 exact ⟨g,c,hv,hc _ _ h0,hc _ _ h1,hc _ _ h2⟩
section
variable {P:Program} (w:World)
end
end Go.Proofs.YtgpigjoonhghhaaGreat
