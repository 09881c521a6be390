/-
 What is known of a payload that was read, kind by kind, from its parts.
 The document's own reader of deletions.
 What the walk of the document's own Parse of a payload needs.
 Codes.Payload, a type at a time.
 What is known of an element of a row as long as the memory from some place on stays; append to a row as a law of the walk that says where the row lies.
-/
import Derived.Test.YtgpigjoonhghhaaGreatQZ8
import Derived.Test.YtgpigjoonhghhaaGreatQZ21
import Derived.Test.YtgpigjoonhghhaaGreatQZ7
import Derived.Test.YtgpigjoonhghhaaGreatQZ15
import Derived.Test.YtgpigjoonhghhaaGreatQPayDel
import Derived.Test.YtgpigjoonhghhaaGreatQZ5
import Derived.Test.YtgpigjoonhghhaaGreatQZ30
import Derived.Test.YtgpigjoonhghhaaGreatQZ13
import Derived.Deep.Cut
import Derived.Deep.CutRange
import Derived.Deep.CutBlock
namespace Go.Proofs.YtgpigjoonhghhaaGreat
open Go.RowKit
set_option linter.unusedVariables false
theorem gdok_33 (base:Nat) (w:World) (x:Pv) (xs:List Int) (ls:List PrP) (hl:ls.map PrP.pr=(parseP xs).1) (hr:RowG KPr NPr w base (.slice x.pr.p x.pr.n x.pr.c) ls) (hn:ls.length=x.pr.n):(gdK 33 xs).ok base w x :=
 ⟨{ Cn with pr:=ls },fun W hW=>⟨fun _=>⟨RowG.kp (D:=DPr) hr hn hW (fun _ hx=>OkN.kp hx hW)⟩,fun e=>absurd e (show ¬ ((33:Int)=34) by decide),fun e=>absurd e (show ¬ ((33:Int)=35) by decide),fun e=>absurd e (show ¬ ((33:Int)=36) by decide),fun e=>absurd e (show ¬ ((33:Int)=39) by decide),fun e=>absurd e (show ¬ ((33:Int)=41) by decide),fun e=>absurd e (show ¬ ((33:Int)=42) by decide),fun e=>absurd e (show ¬ ((33:Int)=44) by decide),fun e=>absurd e (show ¬ ((33:Int)=45) by decide),fun e0 e1 e2 e3 e4 e5 e6 e7 e8=>absurd rfl e0⟩,⟨fun _=>hl,fun e=>absurd e (by decide),fun e=>absurd e (by decide),fun e=>absurd e (by decide),fun e=>absurd e (by decide),fun e=>absurd e (by decide),fun e=>absurd e (by decide),fun e0 e1 e2 e3 e4 e5 e6 e7 e8=>absurd rfl e0⟩⟩
theorem gdok_34 (base:Nat) (w:World) (x:Pv) (xs:List Int) (h1:x.eg=nthB xs 0*256+nthB xs 1) (h2:FrV w base x.ed (xs.drop 4)):(gdK 34 xs).ok base w x :=
 ⟨{ Cn with ed:=xs.drop 4 },fun W hW=>⟨fun e=>absurd e (show ¬ ((34:Int)=33) by decide),fun _=>⟨Frs.kp h2 hW⟩,fun e=>absurd e (show ¬ ((34:Int)=35) by decide),fun e=>absurd e (show ¬ ((34:Int)=36) by decide),fun e=>absurd e (show ¬ ((34:Int)=39) by decide),fun e=>absurd e (show ¬ ((34:Int)=41) by decide),fun e=>absurd e (show ¬ ((34:Int)=42) by decide),fun e=>absurd e (show ¬ ((34:Int)=44) by decide),fun e=>absurd e (show ¬ ((34:Int)=45) by decide),fun e0 e1 e2 e3 e4 e5 e6 e7 e8=>absurd rfl e1⟩,⟨fun e=>absurd e (by decide),fun _=>⟨h1,rfl⟩,fun e=>absurd e (by decide),fun e=>absurd e (by decide),fun e=>absurd e (by decide),fun e=>absurd e (by decide),fun e=>absurd e (by decide),fun e0 e1 e2 e3 e4 e5 e6 e7 e8=>absurd rfl e1⟩⟩
theorem gdok_35 (base:Nat) (w:World) (x:Pv) (xs:List Int) (h1:x.ik=nthB xs 0) (h2:FrV w base x.id (xs.drop 4)):(gdK 35 xs).ok base w x :=
 ⟨{ Cn with id:=xs.drop 4 },fun W hW=>⟨fun e=>absurd e (show ¬ ((35:Int)=33) by decide),fun e=>absurd e (show ¬ ((35:Int)=34) by decide),fun _=>⟨Frs.kp h2 hW⟩,fun e=>absurd e (show ¬ ((35:Int)=36) by decide),fun e=>absurd e (show ¬ ((35:Int)=39) by decide),fun e=>absurd e (show ¬ ((35:Int)=41) by decide),fun e=>absurd e (show ¬ ((35:Int)=42) by decide),fun e=>absurd e (show ¬ ((35:Int)=44) by decide),fun e=>absurd e (show ¬ ((35:Int)=45) by decide),fun e0 e1 e2 e3 e4 e5 e6 e7 e8=>absurd rfl e2⟩,⟨fun e=>absurd e (by decide),fun e=>absurd e (by decide),fun _=>⟨h1,rfl⟩,fun e=>absurd e (by decide),fun e=>absurd e (by decide),fun e=>absurd e (by decide),fun e=>absurd e (by decide),fun e0 e1 e2 e3 e4 e5 e6 e7 e8=>absurd rfl e2⟩⟩
theorem gdok_36 (base:Nat) (w:World) (x:Pv) (xs:List Int) (h1:x.ik=nthB xs 0) (h2:FrV w base x.id (xs.drop 4)):(gdK 36 xs).ok base w x :=
 ⟨{ Cn with id:=xs.drop 4 },fun W hW=>⟨fun e=>absurd e (show ¬ ((36:Int)=33) by decide),fun e=>absurd e (show ¬ ((36:Int)=34) by decide),fun e=>absurd e (show ¬ ((36:Int)=35) by decide),fun _=>⟨Frs.kp h2 hW⟩,fun e=>absurd e (show ¬ ((36:Int)=39) by decide),fun e=>absurd e (show ¬ ((36:Int)=41) by decide),fun e=>absurd e (show ¬ ((36:Int)=42) by decide),fun e=>absurd e (show ¬ ((36:Int)=44) by decide),fun e=>absurd e (show ¬ ((36:Int)=45) by decide),fun e0 e1 e2 e3 e4 e5 e6 e7 e8=>absurd rfl e3⟩,⟨fun e=>absurd e (by decide),fun e=>absurd e (by decide),fun _=>⟨h1,rfl⟩,fun e=>absurd e (by decide),fun e=>absurd e (by decide),fun e=>absurd e (by decide),fun e=>absurd e (by decide),fun e0 e1 e2 e3 e4 e5 e6 e7 e8=>absurd rfl e3⟩⟩
theorem gdok_39 (base:Nat) (w:World) (x:Pv) (xs:List Int) (h1:x.am=nthB xs 0) (h2:FrV w base x.ad (xs.drop 4)):(gdK 39 xs).ok base w x :=
 ⟨{ Cn with ad:=xs.drop 4 },fun W hW=>⟨fun e=>absurd e (show ¬ ((39:Int)=33) by decide),fun e=>absurd e (show ¬ ((39:Int)=34) by decide),fun e=>absurd e (show ¬ ((39:Int)=35) by decide),fun e=>absurd e (show ¬ ((39:Int)=36) by decide),fun _=>⟨Frs.kp h2 hW⟩,fun e=>absurd e (show ¬ ((39:Int)=41) by decide),fun e=>absurd e (show ¬ ((39:Int)=42) by decide),fun e=>absurd e (show ¬ ((39:Int)=44) by decide),fun e=>absurd e (show ¬ ((39:Int)=45) by decide),fun e0 e1 e2 e3 e4 e5 e6 e7 e8=>absurd rfl e4⟩,⟨fun e=>absurd e (by decide),fun e=>absurd e (by decide),fun e=>absurd e (by decide),fun _=>⟨h1,rfl⟩,fun e=>absurd e (by decide),fun e=>absurd e (by decide),fun e=>absurd e (by decide),fun e0 e1 e2 e3 e4 e5 e6 e7 e8=>absurd rfl e4⟩⟩
theorem gdok_41 (base:Nat) (w:World) (x:Pv) (xs:List Int) (h1:x.np=nthB xs 0) (h2:x.nt=nthB xs 2*256+nthB xs 3) (h3:FrV w base x.ns ((xs.drop 4).take (nthB xs 1).toNat)) (h4:FrV w base x.nd (xs.drop (4+(nthB xs 1).toNat))):(gdK 41 xs).ok base w x :=
 ⟨{ Cn with ns:=(xs.drop 4).take (nthB xs 1).toNat,nd:=xs.drop (4+(nthB xs 1).toNat) },fun W hW=>⟨fun e=>absurd e (show ¬ ((41:Int)=33) by decide),fun e=>absurd e (show ¬ ((41:Int)=34) by decide),fun e=>absurd e (show ¬ ((41:Int)=35) by decide),fun e=>absurd e (show ¬ ((41:Int)=36) by decide),fun e=>absurd e (show ¬ ((41:Int)=39) by decide),fun _=>⟨Frs.kp h3 hW,Frs.kp h4 hW⟩,fun e=>absurd e (show ¬ ((41:Int)=42) by decide),fun e=>absurd e (show ¬ ((41:Int)=44) by decide),fun e=>absurd e (show ¬ ((41:Int)=45) by decide),fun e0 e1 e2 e3 e4 e5 e6 e7 e8=>absurd rfl e5⟩,⟨fun e=>absurd e (by decide),fun e=>absurd e (by decide),fun e=>absurd e (by decide),fun e=>absurd e (by decide),fun _=>⟨h1,h2,rfl,rfl⟩,fun e=>absurd e (by decide),fun e=>absurd e (by decide),fun e0 e1 e2 e3 e4 e5 e6 e7 e8=>absurd rfl e5⟩⟩
theorem gdok_42 (base:Nat) (w:World) (x:Pv) (xs:List Int) (h1:x.dp=nthB xs 0) (l:List Sb) (hr:RowG KSb NSb w base (.slice x.ds.p x.ds.n x.ds.c) l) (hl:l.map Sb.xs=spisL (xs.drop 4) (nthB xs 1).toNat (nthB xs 2*256+nthB xs 3).toNat) (hn:l.length=x.ds.n):(gdK 42 xs).ok base w x :=
 ⟨{ Cn with ds:=l },fun W hW=>⟨fun e=>absurd e (show ¬ ((42:Int)=33) by decide),fun e=>absurd e (show ¬ ((42:Int)=34) by decide),fun e=>absurd e (show ¬ ((42:Int)=35) by decide),fun e=>absurd e (show ¬ ((42:Int)=36) by decide),fun e=>absurd e (show ¬ ((42:Int)=39) by decide),fun e=>absurd e (show ¬ ((42:Int)=41) by decide),fun _=>⟨RowG.kp (D:=DSb) hr hn hW (fun _ hx=>Bod.kp hx hW)⟩,fun e=>absurd e (show ¬ ((42:Int)=44) by decide),fun e=>absurd e (show ¬ ((42:Int)=45) by decide),fun e0 e1 e2 e3 e4 e5 e6 e7 e8=>absurd rfl e6⟩,⟨fun e=>absurd e (by decide),fun e=>absurd e (by decide),fun e=>absurd e (by decide),fun e=>absurd e (by decide),fun e=>absurd e (by decide),fun _=>⟨h1,hl⟩,fun e=>absurd e (by decide),fun e0 e1 e2 e3 e4 e5 e6 e7 e8=>absurd rfl e6⟩⟩
theorem gdok_44 (base:Nat) (w:World) (x:Pv) (xs:List Int) (hr:RowG KSl NSl w base (.slice x.se.p x.se.n x.se.c) (parseS xs).1) (hn:(parseS xs).1.length=x.se.n):(gdK 44 xs).ok base w x :=
 ⟨{ Cn with se:=(parseS xs).1 },fun W hW=>⟨fun e=>absurd e (show ¬ ((44:Int)=33) by decide),fun e=>absurd e (show ¬ ((44:Int)=34) by decide),fun e=>absurd e (show ¬ ((44:Int)=35) by decide),fun e=>absurd e (show ¬ ((44:Int)=36) by decide),fun e=>absurd e (show ¬ ((44:Int)=39) by decide),fun e=>absurd e (show ¬ ((44:Int)=41) by decide),fun e=>absurd e (show ¬ ((44:Int)=42) by decide),fun _=>⟨RowG.kp (D:=DSlr) hr hn hW (fun _ hx=>hx)⟩,fun e=>absurd e (show ¬ ((44:Int)=45) by decide),fun e0 e1 e2 e3 e4 e5 e6 e7 e8=>absurd rfl e7⟩,⟨fun e=>absurd e (by decide),fun e=>absurd e (by decide),fun e=>absurd e (by decide),fun e=>absurd e (by decide),fun e=>absurd e (by decide),fun e=>absurd e (by decide),fun _=>rfl,fun e0 e1 e2 e3 e4 e5 e6 e7 e8=>absurd rfl e7⟩⟩
theorem gdok_45 (base:Nat) (w:World) (x:Pv) (xs:List Int) (hr:RowG KSl NSl w base (.slice x.se.p x.se.n x.se.c) (parseS xs).1) (hn:(parseS xs).1.length=x.se.n):(gdK 45 xs).ok base w x :=
 ⟨{ Cn with se:=(parseS xs).1 },fun W hW=>⟨fun e=>absurd e (show ¬ ((45:Int)=33) by decide),fun e=>absurd e (show ¬ ((45:Int)=34) by decide),fun e=>absurd e (show ¬ ((45:Int)=35) by decide),fun e=>absurd e (show ¬ ((45:Int)=36) by decide),fun e=>absurd e (show ¬ ((45:Int)=39) by decide),fun e=>absurd e (show ¬ ((45:Int)=41) by decide),fun e=>absurd e (show ¬ ((45:Int)=42) by decide),fun e=>absurd e (show ¬ ((45:Int)=44) by decide),fun _=>⟨RowG.kp (D:=DSlr) hr hn hW (fun _ hx=>hx)⟩,fun e0 e1 e2 e3 e4 e5 e6 e7 e8=>absurd rfl e8⟩,⟨fun e=>absurd e (by decide),fun e=>absurd e (by decide),fun e=>absurd e (by decide),fun e=>absurd e (by decide),fun e=>absurd e (by decide),fun e=>absurd e (by decide),fun _=>rfl,fun e0 e1 e2 e3 e4 e5 e6 e7 e8=>absurd rfl e8⟩⟩
theorem gdok_40 (base:Nat) (w:World) (x:Pv) (xs:List Int) (h2:FrV w base x.da xs):(gdK 40 xs).ok base w x :=
 ⟨{ Cn with da:=xs },fun W hW=>⟨fun e=>absurd e (show ¬ ((40:Int)=33) by decide),fun e=>absurd e (show ¬ ((40:Int)=34) by decide),fun e=>absurd e (show ¬ ((40:Int)=35) by decide),fun e=>absurd e (show ¬ ((40:Int)=36) by decide),fun e=>absurd e (show ¬ ((40:Int)=39) by decide),fun e=>absurd e (show ¬ ((40:Int)=41) by decide),fun e=>absurd e (show ¬ ((40:Int)=42) by decide),fun e=>absurd e (show ¬ ((40:Int)=44) by decide),fun e=>absurd e (show ¬ ((40:Int)=45) by decide),fun _ _ _ _ _ _ _ _ _=>⟨Frs.kp h2 hW⟩⟩,⟨fun e=>absurd e (by decide),fun e=>absurd e (by decide),fun e=>absurd e (by decide),fun e=>absurd e (by decide),fun e=>absurd e (by decide),fun e=>absurd e (by decide),fun e=>absurd e (by decide),fun _ _ _ _ _ _ _ _ _=>rfl⟩⟩
theorem gdok_X (t:Int) (ht:Other t) (base:Nat) (w:World) (x:Pv) (xs:List Int) (h2:FrV w base x.da xs):(gdK t xs).ok base w x:=by
 obtain ⟨h33,h34,h35,h36,h39,h40,h41,h42,h44,h45⟩:=ht
 exact ⟨{ Cn with da:=xs },fun W hW=>⟨fun e=>absurd e h33,fun e=>absurd e h34,fun e=>absurd e h35,fun e=>absurd e h36,fun e=>absurd e h39,fun e=>absurd e h41,fun e=>absurd e h42,fun e=>absurd e h44,fun e=>absurd e h45,fun _ _ _ _ _ _ _ _ _=>⟨Frs.kp h2 hW⟩⟩,
  ⟨fun e=>absurd e h33,fun e=>absurd e h34,fun e=>absurd e (by omega),fun e=>absurd e h39,fun e=>absurd e h41,fun e=>absurd e h42,fun e=>absurd e (by omega),fun _ _ _ _ _ _ _ _ _=>rfl⟩⟩
end Go.Proofs.YtgpigjoonhghhaaGreat

namespace Go.Proofs.YtgpigjoonhghhaaGreat
open Go.RowKit
set_option linter.unusedVariables false
set_option linter.unusedSimpArgs false
section
variable {w:World} {g:Nat} {k:Int} {s:Sv}
theorem load_dl6 (h:DlIn w g k (.slice s.p s.n s.c)):(loadVar 46 ⟨g,0,none⟩).run Tryz.prog w=.ok (.agg #[.int .i64 k,.slice s.p s.n s.c]) w:=by
 obtain ⟨c0,c1,fr⟩:=h
 simp [loadVar,go_sem,c0,c1,Result.andThen]
theorem ret_dl6 {fn:Func} {R:Ending→World→Prop} {act:Act} {p u:Nat} {v:Value} (h:fn.results=#[.cell p 46,.tmp u]) (hp:act.tmps.getD p undef=.pointer (some ⟨g,0,none⟩)) (hu:act.tmps.getD u undef=v) (hd:act.defers=[])
  (hh:DlIn w g k (.slice s.p s.n s.c)) (hR:R (.returned (.tuple #[.agg #[.int .i64 k,.slice s.p s.n s.c],v])) w):bodyPost Tryz.prog fn R .ret act w:=by
 refine bodyPost_ret (v:=.tuple #[.agg #[.int .i64 k,.slice s.p s.n s.c],v]) ?_ hd hR
 rw [Array.getD_eq_getD_getElem?] at hp hu
 simp [results,h,hp,hu,asAddr,load_dl6 hh,Result.andThen]
theorem DlIn.setAll {w:World} {g:Nat} {k:Int} {v:Value} (h:DlIn w g k v) (k':Int) (u:Value):DlIn ((w.setCell ⟨g,0,none⟩ (.int .i64 k')).setCell ⟨g,1,none⟩ u) g k' u:=by
 obtain ⟨c0,c1,fr⟩:=h
 exact ⟨by go_simp,by go_simp,fun j=>by simp only [World.frozen?_setCell];exact fr j⟩
end
theorem DlIn.belowB {w w':World} {r B:Nat} {k:Int} {v:Value} (h:DlIn w r k v) (hb:Below B w w') (hr:r<B):DlIn w' r k v :=
 ⟨(hb.cell (p:=⟨r,0,none⟩) hr).trans h.c0,(hb.cell (p:=⟨r,1,none⟩) hr).trans h.c1,fun j=>(World.frozen?_of_block (a:=⟨r,j,none⟩) (hb.block r hr)).trans (h.fr j)⟩
theorem spisL_four (ys:List Int) (Z M:Nat) (h:(Z=0∧M=0)∨Z=4) (hl:ys.length=Z*M) : ∀ y∈spisL ys Z M,y.length=4:=by
 intro y hy
 unfold spisL at hy
 obtain ⟨i,hi,rfl⟩:=List.mem_map.1 hy
 have hi':=List.mem_range.1 hi
 rcases h with ⟨_,h0⟩ | h4
 ·omega
 ·subst h4
  rw [List.length_take,List.length_drop,hl]
  omega
def RemovedR (w:World) (xs:List Int) (E:Int) (e:Ending) (w':World):Prop :=
 ∃ (k:Int) (s:Sv),e=.returned (.tuple #[.agg #[.int .i64 k,.slice s.p s.n s.c],.int .i64 E])∧Below w.heap.size w w' ∧
  (E=0→k=nthB xs 0∧∃ l:List Sb,RowG KSb NSb w' w.heap.size (.slice s.p s.n s.c) l∧l.map Sb.xs=spisL (xs.drop 4) (nthB xs 1).toNat (nthB xs 2*256+nthB xs 3).toNat∧l.length=s.n)
theorem delE_four (xs:List Int) (n:Nat):delE xs n=if n<4 then 1 else if nthB xs 0<1∨3<nthB xs 0 then 5 else if nthB xs 1≠widthN (nthB xs 0)∨(nthB xs 0=1∧nthB xs 2*256+nthB xs 3≠0) then 20
  else if (n:Int) - 4≠nthB xs 1*(nthB xs 2*256+nthB xs 3) then 2 else if nthB xs 0≠1∧(nthB xs 2*256+nthB xs 3).toNat=0 then 8 else if twiceW [] (spisL (xs.drop 4) (nthB xs 1).toNat (nthB xs 2*256+nthB xs 3).toNat) then 9 else 0:=by
 unfold delE spisX
 generalize nthB xs 0=k
 generalize nthB xs 1=z
 generalize nthB xs 2*256+nthB xs 3=T
 have hl:(spisL (xs.drop 4) z.toNat T.toNat).length=T.toNat:=by simp [spisL]
 rw [hl]
 by_cases h4:n<4
 ·rw [if_pos h4,if_pos h4]
 rw [if_neg h4,if_neg h4]
 by_cases hk:k<1∨3<k
 ·have hD:deleteE k z T=5:=by unfold deleteE;rw [if_pos (by omega)]
  rw [if_pos hk,hD,if_pos (by decide)]
 rw [if_neg hk,width_spi k (by omega) (by omega)]
 by_cases hz:z=(spiZ k:Int)∧¬ (k=1∧T≠0)
 ·have hD:deleteE k z T=0:=by unfold deleteE;rw [if_neg (by omega),if_pos hz]
  have hno:¬ (z≠(spiZ k:Int)∨(k=1∧T≠0)):=by
   rintro (h | h)
   ·exact h hz.1
   ·exact hz.2 h
  rw [hD,if_neg (show ¬ ((0:Int)≠0) by decide),if_neg hno]
  by_cases hn:(n:Int) - 4≠z*T
  ·rw [if_pos hn,if_pos hn]
  ·rw [if_neg hn,if_neg hn]
   by_cases h8:T.toNat=0∧k≠1
   ·rw [if_pos h8,if_pos ⟨h8.2,h8.1⟩]
   ·have h8':¬ (k≠1∧T.toNat=0):=fun h=>h8 ⟨h.2,h.1⟩
    rw [if_neg h8,if_neg h8']
 ·have hD:deleteE k z T=20:=by unfold deleteE;rw [if_neg (by omega),if_neg hz]
  rw [hD,if_pos (by decide),if_pos (by omega)]
set_option maxHeartbeats 6400000 in
set_option maxRecDepth 100000 in
theorem rremove_any (p:Option Addr) (n c:Nat) (xs:List Int) (w:World) (h:Byt w p n c xs) (hb:n≤140737488355328) :
  Calls Tryz.prog 46 #[.slice p n c] w (RemovedR w xs (delE xs n)):=by
 obtain ⟨i0,hi0,hz0,hz1,hz2⟩:=info_parts Tryz.infoByte
 have hn:=h.le
 have hcap:=h.cap
 have hbig:=h.big
 have hlen:=h.len
 have HB:=hidden ((Below.refl w.heap.size w).alloc (Nat.le_refl _) (.cells #[.int .i64 0,.slice none 0 0] 46))
 have HNT:=hidden (DlIn.new w 0 46)
 have hE:=delE_four xs n
 obtain ⟨E,hEd⟩ : ∃ E,delE xs n=E:=⟨_,rfl⟩
 rw [hEd] at hE ⊢
 clear hEd
 by_cases h4:n<4
 ·rw [if_pos h4] at hE
  subst hE
  have h4':(n:Int)<4:=by omega
  clear h
  obtain ⟨k0,k1,kf⟩:=HNT.out
  go_enter Tryz.func46,Tryz.ntmps46
  go_wp2
  exact ret_dl6 (g:=w.heap.size) (s:=nilV) rfl rfl rfl rfl HNT.out ⟨0,nilV,rfl,HB.out,fun h=>absurd h (by decide)⟩
 rw [if_neg h4] at hE
 obtain ⟨b,o,rfl,hc⟩:=h.at_ (by omega)
 have hbl:=h.lt (by omega)
 have r0:=rng_getD h.rng 0
 have r1:=rng_getD h.rng 1
 have r2:=rng_getD h.rng 2
 have r3:=rng_getD h.rng 3
 have HW:=hidden (rwidth_any (nthB xs 0))
 have h4':¬ (n:Int)<4:=by omega
 have hn0:(0:Int)<(n:Int):=by omega
 have hn0N:0<n:=by omega
 have hn1:(1:Int)<(n:Int):=by omega
 have HBD:=hidden HB.out.drew
 have c0:=cell_below HBD.out _ _ (hc 0 (by omega))
 have c1:=cell_below HBD.out _ _ (hc 1 (by omega))
 have HNO:=hidden (rnumber_yes (some ⟨b,o,none⟩) n c xs _ (h.below HBD.out) 2 2 (by omega) (by omega) (by omega))
 rw [val_two xs 2 (by omega),show (2:Nat)+1=3 from rfl,show ((2:Nat):Int)=2 from rfl] at HNO
 have HP:=hidden (fun W (hW:Below w.heap.size w W)=>(h.below hW))
 obtain ⟨x0,hx0⟩ : ∃ x,nthB xs 0=x:=⟨_,rfl⟩
 obtain ⟨x1,hx1⟩ : ∃ x,nthB xs 1=x:=⟨_,rfl⟩
 obtain ⟨T,hT⟩ : ∃ x,nthB xs 2*256+nthB xs 3=x:=⟨_,rfl⟩
 have hTr:0≤T∧T≤65535:=by rw [←hT];unfold nthB;omega
 rw [show xs.getD 0 0=x0 from hx0] at c0 r0
 rw [show xs.getD 1 0=x1 from hx1] at c1 r1
 rw [hx0] at HW hE
 rw [hx1] at hE
 rw [hT] at HNO hE
 rw [Nat.add_zero] at c0
 have HWX:Hid (widthN x0=if x0=0∨x0=1 then 0 else 4):=rfl
 generalize widthN x0=wd at *
 have hor:b<w.heap.size:=hbl
 have HE0:=Is.mk hx0
 have HE1:=Is.mk hx1
 have HET:=Is.mk hT
 obtain ⟨Z,rfl⟩:=Int.eq_ofNat_of_zero_le r1.1
 obtain ⟨M,rfl⟩:=Int.eq_ofNat_of_zero_le hTr.1
 have hZM:Z*M≤255*65535:=Nat.mul_le_mul (by omega) (by omega)
 have hwm:IntKind.i64.wrap ((Z:Int)*(M:Int))=(Z:Int)*(M:Int):=by
  rw [show (Z:Int)*(M:Int)=((Z*M:Nat):Int) from (Int.natCast_mul Z M).symm]
  exact wraps_i64 _ (by omega) (by omega)
 have hwT:IntKind.i64.wrap (M:Int)=(M:Int):=wraps_i64 _ (by omega) (by omega)
 have hwx0:IntKind.i64.wrap x0=x0:=wraps_i64 _ (by omega) (by omega)
 have hwx1:IntKind.i64.wrap (Z:Int)=(Z:Int):=wraps_i64 _ (by omega) (by omega)
 have HC0:=hidden (fun W (hW:Below (w.alloc (.cells #[.int .i64 0,.slice none 0 0] 46)).drew.heap.size (w.alloc (.cells #[.int .i64 0,.slice none 0 0] 46)).drew W)=>HNT.out.below ((Below.refl _ _).drew.trans hW))
 clear h hc hx0 hx1 hT r2 r3
 go_enter Tryz.func46,Tryz.ntmps46
 go_upto_region 3 with fail
 go_region
 go_upto_block 0 with (first
  | (go_at_call 42;(with_reducible refine (HNO.out).mono ?_);rintro e w1 ⟨rfl,rfl⟩)
  | fail)
 generalize hwD:(w.alloc (.cells _ 46)).drew=wD at *
 have HND:Hid (DlIn wD w.heap.size 0 (.slice none 0 0)):=by rw [←hwD];exact hidden (HNT.out.below (Below.refl _ _).drew)
 have HCD:=hidden (fun W (hW:Below wD.heap.size wD W)=>HND.out.below hW)
 obtain ⟨k0,k1,kf⟩:=HND.out
 clear hwD HC0 HNT HB
 have hbm:(n:Int) - 4=((n - 4:Nat):Int):=by omega
 have HBM:=Is.mk hbm
 clear hbm
 go_cut [] from 27 to 66 (fun wx=>((Z=0∧M=0)∨(Z=4∧x0≠1))∧n - 4=Z*M∧Hid (E=if twiceW [] (spisL (xs.drop 4) Z M)=true then 9 else 0)∧Below wD.heap.size wD wx)
 case first =>
  by_cases hk1:x0<1
  ·rw [if_pos (Or.inl hk1)] at hE
   subst hE
   have HZ:=hidden (DlIn.setAll HND.out 0 (.slice none 0 0))
   have HBZ:=hidden ((HBD.out.setCell (p:=⟨w.heap.size,0,none⟩) (Nat.le_refl w.heap.size) (.int .i64 0)).setCell (p:=⟨w.heap.size,1,none⟩) (Nat.le_refl w.heap.size) (.slice none 0 0))
   go_wp2
   exact ret_dl6 (g:=w.heap.size) (s:=nilV) rfl rfl rfl rfl HZ.out ⟨0,nilV,rfl,HBZ.out,fun h=>absurd h (by decide)⟩
  by_cases hk3:3<x0
  ·rw [if_pos (Or.inr hk3)] at hE
   subst hE
   have HZ:=hidden (DlIn.setAll HND.out 0 (.slice none 0 0))
   have HBZ:=hidden ((HBD.out.setCell (p:=⟨w.heap.size,0,none⟩) (Nat.le_refl w.heap.size) (.int .i64 0)).setCell (p:=⟨w.heap.size,1,none⟩) (Nat.le_refl w.heap.size) (.slice none 0 0))
   go_wp2
   exact ret_dl6 (g:=w.heap.size) (s:=nilV) rfl rfl rfl rfl HZ.out ⟨0,nilV,rfl,HBZ.out,fun h=>absurd h (by decide)⟩
  rw [if_neg (by omega)] at hE
  by_cases hz:(Z:Int)≠wd
  ·rw [if_pos (Or.inl hz)] at hE
   subst hE
   have hne:((Z:Int) != wd)=true:=by simpa using hz
   clear hz k0 k1 kf
   go_upto_region 8 with (first
    | (go_at_call 38;(with_reducible refine (HW.out _).mono ?_);rintro e w2 ⟨rfl,hb2⟩;have HB2:=hidden (HBD.out.trans (hb2.mono HBD.out.size));have HN2:=hidden (HCD.out w2 hb2);obtain ⟨k0,k1,kf⟩:=HN2.out;clear hb2)
    | fail)
   have HZ:=hidden (DlIn.setAll HN2.out 0 (.slice none 0 0))
   have HBZ:=hidden ((HB2.out.setCell (p:=⟨w.heap.size,0,none⟩) (Nat.le_refl w.heap.size) (.int .i64 0)).setCell (p:=⟨w.heap.size,1,none⟩) (Nat.le_refl w.heap.size) (.slice none 0 0))
   go_wp2
   exact ret_dl6 (g:=w.heap.size) (s:=nilV) rfl rfl rfl rfl HZ.out ⟨0,nilV,rfl,HBZ.out,fun h=>absurd h (by decide)⟩
  have hne:((Z:Int) != wd)=false:=by simpa using hz
  by_cases h1M:x0=1∧(M:Int)≠0
  ·rw [if_pos (Or.inr h1M)] at hE
   subst hE
   have he1:(x0 == 1)=true:=by simpa using h1M.1
   have heM:((M:Int) != 0)=true:=by simp;omega
   clear h1M k0 k1 kf
   go_upto_region 8 with (first
    | (go_at_call 38;(with_reducible refine (HW.out _).mono ?_);rintro e w2 ⟨rfl,hb2⟩;have HB2:=hidden (HBD.out.trans (hb2.mono HBD.out.size));have HN2:=hidden (HCD.out w2 hb2);obtain ⟨k0,k1,kf⟩:=HN2.out;clear hb2)
    | fail)
   have HZ:=hidden (DlIn.setAll HN2.out 0 (.slice none 0 0))
   have HBZ:=hidden ((HB2.out.setCell (p:=⟨w.heap.size,0,none⟩) (Nat.le_refl w.heap.size) (.int .i64 0)).setCell (p:=⟨w.heap.size,1,none⟩) (Nat.le_refl w.heap.size) (.slice none 0 0))
   go_wp2
   exact ret_dl6 (g:=w.heap.size) (s:=nilV) rfl rfl rfl rfl HZ.out ⟨0,nilV,rfl,HBZ.out,fun h=>absurd h (by decide)⟩
  rw [if_neg (fun h=>h.elim (fun h=>hz h) (fun h=>h1M h))] at hE
  have hzd:(Z:Int)=wd:=by omega
  have hwx:=HWX.out
  have hcs:(Z=0∧x0=1)∨(Z=4∧x0≠1):=by
   by_cases h1:x0=1
   ·rw [if_pos (Or.inr h1)] at hwx
    exact Or.inl ⟨by omega,h1⟩
   ·rw [if_neg (by omega)] at hwx
    exact Or.inr ⟨by omega,h1⟩
  have HCS:=hidden hcs
  clear hz hzd hwx hcs
  have HE:=hidden hE
  clear hE k0 k1 kf
  have hgo : ∀ (hM:¬ (n - 4=Z*M)),((n:Int) - 4 != (Z:Int)*(M:Int))=true:=fun hM=>by
   rw [HBM.eq,←Int.natCast_mul];simp;omega
  have hgo2 : ∀ (hM:n - 4=Z*M),((n:Int) - 4 != (Z:Int)*(M:Int))=false:=fun hM=>by
   rw [HBM.eq,←Int.natCast_mul];simp;omega
  have HGO:=hidden hgo
  have HGO2:=hidden hgo2
  clear hgo hgo2
  by_cases hx1:x0=1
  ·have hM0:M=0:=by
    by_cases h:M=0
    ·exact h
    ·exact absurd ⟨hx1,by omega⟩ h1M
   have hZ0:Z=0:=by
    rcases HCS.out with h | h
    ·exact h.1
    ·exact absurd hx1 h.2
   have he1:(x0 == 1)=true:=by simpa using hx1
   have he1':(x0 != 1)=false:=by simpa using hx1
   have heM:((M:Int) != 0)=false:=by simp;omega
   have HX1:=hidden hx1
   have HM0:=hidden hM0
   have HZ0:=hidden hZ0
   clear h1M hM0 hZ0 hx1
   by_cases hlm:n - 4=Z*M
   ·have hl2:=HGO2.out hlm
    have hfin:E=if twiceW [] (spisL (xs.drop 4) Z M)=true then 9 else 0:=by
     have hE:=HE.out
     rw [if_neg (by rw [HBM.eq,←Int.natCast_mul];omega),if_neg (fun h=>h.1 HX1.out)] at hE
     simpa using hE
    have HFN:=hidden hfin
    have HLM:=hidden hlm
    clear hlm hfin
    go_wp2_with (first
    | (go_at_call 38;(with_reducible refine (HW.out _).mono ?_);rintro e w2 ⟨rfl,hb2⟩;have HB2:=hidden (HBD.out.trans (hb2.mono HBD.out.size));have HN2:=hidden (HCD.out w2 hb2);have HBX:=hidden hb2;obtain ⟨k0,k1,kf⟩:=HN2.out;clear hb2)
    | fail)
    go_meet
    case rel=>exact ⟨Or.inl ⟨HZ0.out,HM0.out⟩,HLM.out,HFN.out,HBX.out⟩
   ·have hl2:=HGO.out hlm
    have hE:=HE.out
    rw [if_pos (by rw [HBM.eq,←Int.natCast_mul];omega)] at hE
    clear hlm HE
    subst hE
    go_upto_region 10 with (first
    | (go_at_call 38;(with_reducible refine (HW.out _).mono ?_);rintro e w2 ⟨rfl,hb2⟩;have HB2:=hidden (HBD.out.trans (hb2.mono HBD.out.size));have HN2:=hidden (HCD.out w2 hb2);have HBX:=hidden hb2;obtain ⟨k0,k1,kf⟩:=HN2.out;clear hb2)
    | fail)
    have HZ:=hidden (DlIn.setAll HN2.out 0 (.slice none 0 0))
    have HBZ:=hidden ((HB2.out.setCell (p:=⟨w.heap.size,0,none⟩) (Nat.le_refl w.heap.size) (.int .i64 0)).setCell (p:=⟨w.heap.size,1,none⟩) (Nat.le_refl w.heap.size) (.slice none 0 0))
    go_wp2
    exact ret_dl6 (g:=w.heap.size) (s:=nilV) rfl rfl rfl rfl HZ.out ⟨0,nilV,rfl,HBZ.out,fun h=>absurd h (by decide)⟩
  ·have hZ4:Z=4:=by
    rcases HCS.out with h | h
    ·exact absurd h.2 hx1
    ·exact h.1
   have he1:(x0 == 1)=false:=by simpa using hx1
   have he1':(x0 != 1)=true:=by simpa using hx1
   have HX1:=hidden hx1
   have HZ4:=hidden hZ4
   clear h1M hZ4 hx1
   by_cases hlm:n - 4=Z*M
   ·have hl2:=HGO2.out hlm
    have hE:=HE.out
    rw [if_neg (by rw [HBM.eq,←Int.natCast_mul];omega)] at hE
    clear HE
    by_cases hM0:M=0
    ·rw [if_pos ⟨HX1.out,by omega⟩] at hE
     have heM:((M:Int) == 0)=true:=by simp;omega
     clear hM0 hlm
     subst hE
     go_upto_region 12 with (first
    | (go_at_call 38;(with_reducible refine (HW.out _).mono ?_);rintro e w2 ⟨rfl,hb2⟩;have HB2:=hidden (HBD.out.trans (hb2.mono HBD.out.size));have HN2:=hidden (HCD.out w2 hb2);have HBX:=hidden hb2;obtain ⟨k0,k1,kf⟩:=HN2.out;clear hb2)
    | fail)
     have HZ:=hidden (DlIn.setAll HN2.out 0 (.slice none 0 0))
     have HBZ:=hidden ((HB2.out.setCell (p:=⟨w.heap.size,0,none⟩) (Nat.le_refl w.heap.size) (.int .i64 0)).setCell (p:=⟨w.heap.size,1,none⟩) (Nat.le_refl w.heap.size) (.slice none 0 0))
     go_wp2
     exact ret_dl6 (g:=w.heap.size) (s:=nilV) rfl rfl rfl rfl HZ.out ⟨0,nilV,rfl,HBZ.out,fun h=>absurd h (by decide)⟩
    ·rw [if_neg (by omega)] at hE
     have heM:((M:Int) == 0)=false:=by simp;omega
     have HFN:=hidden (show E=if twiceW [] (spisL (xs.drop 4) Z M)=true then 9 else 0 by simpa using hE)
     have HLM:=hidden hlm
     clear hM0 hlm hE
     go_wp2_with (first
    | (go_at_call 38;(with_reducible refine (HW.out _).mono ?_);rintro e w2 ⟨rfl,hb2⟩;have HB2:=hidden (HBD.out.trans (hb2.mono HBD.out.size));have HN2:=hidden (HCD.out w2 hb2);have HBX:=hidden hb2;obtain ⟨k0,k1,kf⟩:=HN2.out;clear hb2)
    | fail)
     go_meet
     case rel=>exact ⟨Or.inr ⟨HZ4.out,HX1.out⟩,HLM.out,HFN.out,HBX.out⟩
   ·have hl2:=HGO.out hlm
    have hE:=HE.out
    rw [if_pos (by rw [HBM.eq,←Int.natCast_mul];omega)] at hE
    clear hlm HE
    subst hE
    go_upto_region 10 with (first
    | (go_at_call 38;(with_reducible refine (HW.out _).mono ?_);rintro e w2 ⟨rfl,hb2⟩;have HB2:=hidden (HBD.out.trans (hb2.mono HBD.out.size));have HN2:=hidden (HCD.out w2 hb2);have HBX:=hidden hb2;obtain ⟨k0,k1,kf⟩:=HN2.out;clear hb2)
    | fail)
    have HZ:=hidden (DlIn.setAll HN2.out 0 (.slice none 0 0))
    have HBZ:=hidden ((HB2.out.setCell (p:=⟨w.heap.size,0,none⟩) (Nat.le_refl w.heap.size) (.int .i64 0)).setCell (p:=⟨w.heap.size,1,none⟩) (Nat.le_refl w.heap.size) (.slice none 0 0))
    go_wp2
    exact ret_dl6 (g:=w.heap.size) (s:=nilV) rfl rfl rfl rfl HZ.out ⟨0,nilV,rfl,HBZ.out,fun h=>absurd h (by decide)⟩
 case rest =>
  obtain ⟨hcs,hlm,HFN,hbc⟩:=hcut
  have HNC:=hidden (HND.out.below hbc)
  have HBC:=hidden (HBD.out.trans (hbc.mono HBD.out.size))
  have HCS:=hidden hcs
  have HLM:=Is.mk hlm
  have hRc:=HNC.out.lt
  clear hcs hlm hbc k0 k1 kf HND HCD HW hE HWX HNO c0 c1
  go_upto_region 15 with fail
  have HDG:=hidden (DlIn.new wc x0 46)
  have HRG:=hidden (HNC.out.below ((Below.refl _ wc).alloc (Nat.le_refl _) (.cells #[.int .i64 x0,.slice none 0 0] 46)))
  have HBG:=hidden (HBC.out.alloc HBC.out.size (.cells #[.int .i64 x0,.slice none 0 0] 46))
  have hgs0:wc.heap.size<(wc.alloc (.cells #[.int .i64 x0,.slice none 0 0] 46)).heap.size:=by simp
  generalize wc.alloc (.cells #[.int .i64 x0,.slice none 0 0] 46)=wg at *
  obtain ⟨g,hg⟩ : ∃ g,wc.heap.size=g:=⟨_,rfl⟩
  rw [hg] at HDG hgs0 hRc
  simp only [hg]
  clear hg HNC HBC
  have HB0:Hid (Below g wg wg):=hidden (Below.refl _ _)
  have hgw:w.heap.size≤g:=by omega
  go_wp2
  go_loopw [9] (fun v wr=>∃ (j:Nat) (l:List Sb) (s:Value),j≤M∧v=.int .i64 j∧l.length=j∧DlIn wr g x0 s∧RowG KSb NSb wr (g+1) s l∧l.map Sb.xs=spisL (xs.drop 4) Z j∧Below g wg wr) (fun v _=>M - (intOf v).toNat)
  case atStart=>exact ⟨0,[],_,by omega,rfl,rfl,HDG.out,RowG.nil _ _ _ _,rfl,HB0.out⟩
  case round =>
   obtain ⟨j,l,s,hj,rfl,hl,hdl,hrow,hxs,hbr⟩:=hrel
   have HDL:=hidden hdl
   have HRW:=hidden hrow
   have HBR:=hidden hbr
   have HLJ:=Is.mk hl
   have HXS:=Is.mk hxs
   have hgr:=hdl.lt
   have HPW:=hidden (HBG.out.trans (hbr.mono (show w.heap.size≤g from hgw)))
   clear hdl hrow hbr hl hxs HDG HB0
   by_cases hlt:j<M
   ·have hZ4:Z=4:=by
     rcases HCS.out with h | h
     ·omega
     ·exact h.1
    have hlm:=HLM.eq
    obtain ⟨A,hA⟩ : ∃ A,j*Z=A:=⟨_,rfl⟩
    obtain ⟨B,hB⟩ : ∃ B,(j+1)*Z=B:=⟨_,rfl⟩
    have hAB:B=A+Z:=by rw [←hA,←hB,Nat.add_mul,Nat.one_mul]
    have hA4:A=j*4:=by rw [←hA,hZ4]
    have hlm4:n - 4=4*M:=by rw [hlm,hZ4]
    have hBn:4+B≤n:=by omega
    have hlt':(j:Int)<(M:Int):=by omega
    have hw1:IntKind.i64.wrap ((j:Int)*(Z:Int))=(A:Int):=by
     rw [show (j:Int)*(Z:Int)=(A:Int) from by rw [←hA,Int.natCast_mul]]
     exact wraps_i64 _ (by omega) (by omega)
    have hw2:IntKind.i64.wrap ((j:Int)+1)=(j:Int)+1:=wraps_i64 _ (by omega) (by omega)
    have hw3:IntKind.i64.wrap (((j:Int)+1)*(Z:Int))=(B:Int):=by
     rw [show ((j:Int)+1)*(Z:Int)=(B:Int) from by rw [←hB,Int.natCast_mul];rfl]
     exact wraps_i64 _ (by omega) (by omega)
    have hw4:IntKind.i64.wrap (4+(A:Int))=4+(A:Int):=wraps_i64 _ (by omega) (by omega)
    have hw5:IntKind.i64.wrap (4+(B:Int))=4+(B:Int):=wraps_i64 _ (by omega) (by omega)
    have g1:(0:Int)≤4+(A:Int):=by omega
    have g2:(4:Int)+(A:Int)≤4+(B:Int):=by omega
    have g3:(4:Int)+(B:Int)≤c:=by omega
    have g4:((4:Int)+(A:Int)).toNat=4+A:=by omega
    have g5:((4:Int)+(B:Int)).toNat=4+B:=by omega
    have hsucc:spisL (xs.drop 4) Z (j+1)=spisL (xs.drop 4) Z j++[((xs.drop 4).drop (j*Z)).take Z]:=by simp [spisL,List.range_succ]
    obtain ⟨Y,hY⟩ : ∃ Y,((xs.drop 4).drop (j*Z)).take Z=Y:=⟨_,rfl⟩
    rw [hY] at hsucc
    have HSU:=Is.mk hsucc
    have HBRD:=hidden (show Below wr.heap.size wr wr.drew from drew_below ⟨1,rfl⟩)
    have HQ:=hidden ((HP.out wr.drew (HPW.out.trans (HBRD.out.mono HPW.out.size))).part (4+A) (4+B) (by omega) hBn)
    obtain ⟨bq,hbq⟩ : ∃ z,(if c=4+A then (some ⟨b,o,none⟩:Option Addr) else some ⟨b,o+(4+A),none⟩)=z:=⟨_,rfl⟩
    have hcont:(xs.take (4+B)).drop (4+A)=Y:=by
     rw [List.drop_take,←List.drop_drop,show 4+B - (4+A)=Z by omega,←hA]
     exact hY
    rw [Option.map_some,WideShapes.add_plain,hbq,hcont] at HQ
    have hYl:Y.length=4+B - (4+A):=by
     have:=HQ.out.len
     omega
    have HYL:=Is.mk hYl
    have HYR:=hidden HQ.out.rng
    have HRD:=hidden (HRW.out.below HBRD.out)
    have HDD:=hidden (HDL.out.below HBRD.out)
    obtain ⟨d0,d1,df⟩:=HDD.out
    have hMb:M≤65535:=by omega
    clear hY hsucc hcont hA hB hA4 hAB hlm4 hlm hZ4 hYl
    go_upto_region 17 with fail
    go_wp2_with fail
    refine region_C 15 (fun _=>True) (fun w'=>w'.cell? ⟨g,1,none⟩=some s) (by kernel_rfl) trivial d1 ?_
    intro _ hS1
    refine anyC_take (i:=0) (v:=?_) rfl rfl (by decide) (by kernel_rfl) (by kernel_rfl) (by kernel_rfl) (fun _ _ _ h=>h) (Or.inl ⟨by rfl,?_⟩) trivial (fun _=>hS1) ?_
    rotate_left
    ·intro w0 _;go_simp;(try with_reducible rfl)
    (try simp only [Act.put,List.getElem_toArray,List.getElem_cons_zero,List.getElem_cons_succ,List.setIfInBounds_toArray,List.set_cons_zero,List.set_cons_succ])
    refine anyC_take1 (i:=1) (v:=?_) rfl rfl (by decide) (by kernel_rfl) (by kernel_rfl) (by kernel_rfl) (by kernel_rfl) (by kernel_rfl) (fun _ _ _ h=>h) (Or.inl ⟨by rfl,?_⟩) trivial hS1 ?_
    rotate_left
    ·rintro w0 ⟨-,t0⟩;go_simp;(try with_reducible rfl)
    (try simp only [Act.put,List.getElem_toArray,List.getElem_cons_zero,List.getElem_cons_succ,List.setIfInBounds_toArray,List.set_cons_zero,List.set_cons_succ])
    refine anyC_take (i:=2) (v:=?_) rfl rfl (by decide) (by kernel_rfl) (by kernel_rfl) (by kernel_rfl) (fun _ _ _ h=>h) (Or.inl ⟨by rfl,?_⟩) trivial (fun _=>hS1) ?_
    rotate_left
    ·intro w0 _;go_simp;(try with_reducible rfl)
    (try simp only [Act.put,List.getElem_toArray,List.getElem_cons_zero,List.getElem_cons_succ,List.setIfInBounds_toArray,List.set_cons_zero,List.set_cons_succ])
    refine anyC_take (i:=3) (v:=?_) rfl rfl (by decide) (by kernel_rfl) (by kernel_rfl) (by kernel_rfl) (fun _ _ _ h=>h) (Or.inl ⟨by rfl,?_⟩) trivial (fun _=>hS1) ?_
    rotate_left
    ·intro w0 _;go_simp;(try with_reducible rfl)
    (try simp only [Act.put,List.getElem_toArray,List.getElem_cons_zero,List.getElem_cons_succ,List.setIfInBounds_toArray,List.set_cons_zero,List.set_cons_succ])
    refine anyC_take (i:=4) (v:=?_) rfl rfl (by decide) (by kernel_rfl) (by kernel_rfl) (by kernel_rfl) (fun _ _ _ h=>h) (Or.inl ⟨by rfl,?_⟩) trivial (fun _=>hS1) ?_
    rotate_left
    ·intro w0 _;go_simp;(try with_reducible rfl)
    (try simp only [Act.put,List.getElem_toArray,List.getElem_cons_zero,List.getElem_cons_succ,List.setIfInBounds_toArray,List.set_cons_zero,List.set_cons_succ])
    refine anyC_take (i:=5) (v:=?_) rfl rfl (by decide) (by kernel_rfl) (by kernel_rfl) (by kernel_rfl) (fun _ _ _ h=>h) (Or.inl ⟨by rfl,?_⟩) trivial (fun _=>hS1) ?_
    rotate_left
    ·intro w0 _;go_simp;(try with_reducible rfl)
    (try simp only [Act.put,List.getElem_toArray,List.getElem_cons_zero,List.getElem_cons_succ,List.setIfInBounds_toArray,List.set_cons_zero,List.set_cons_succ])
    refine anyC_take (i:=6) (v:=?_) rfl rfl (by decide) (by kernel_rfl) (by kernel_rfl) (by kernel_rfl) (fun _ _ _ h=>h) (Or.inl ⟨by rfl,?_⟩) trivial (fun _=>hS1) ?_
    rotate_left
    ·intro w0 _;go_simp;(try with_reducible rfl)
    (try simp only [Act.put,List.getElem_toArray,List.getElem_cons_zero,List.getElem_cons_succ,List.setIfInBounds_toArray,List.set_cons_zero,List.set_cons_succ])
    refine anyC_take (i:=7) (v:=?_) rfl rfl (by decide) (by kernel_rfl) (by kernel_rfl) (by kernel_rfl) (fun _ _ _ h=>h) (Or.inl ⟨by rfl,?_⟩) trivial (fun _=>hS1) ?_
    rotate_left
    ·intro w0 _;go_simp;(try with_reducible rfl)
    (try simp only [Act.put,List.getElem_toArray,List.getElem_cons_zero,List.getElem_cons_succ,List.setIfInBounds_toArray,List.set_cons_zero,List.set_cons_succ])
    refine anyC_take (i:=8) (v:=?_) rfl rfl (by decide) (by kernel_rfl) (by kernel_rfl) (by kernel_rfl) (fun _ _ _ h=>h) (Or.inl ⟨by rfl,?_⟩) trivial (fun _=>hS1) ?_
    rotate_left
    ·intro w0 _;go_simp;(try with_reducible rfl)
    (try simp only [Act.put,List.getElem_toArray,List.getElem_cons_zero,List.getElem_cons_succ,List.setIfInBounds_toArray,List.set_cons_zero,List.set_cons_succ])
    refine anyC_take (i:=9) (v:=?_) rfl rfl (by decide) (by kernel_rfl) (by kernel_rfl) (by kernel_rfl) (fun _ _ _ h=>h) (Or.inl ⟨by rfl,?_⟩) trivial (fun _=>hS1) ?_
    rotate_left
    ·intro w0 _;go_simp;(try with_reducible rfl)
    (try simp only [Act.put,List.getElem_toArray,List.getElem_cons_zero,List.getElem_cons_succ,List.setIfInBounds_toArray,List.set_cons_zero,List.set_cons_succ])
    refine anyC_take (i:=10) (v:=?_) rfl rfl (by decide) (by kernel_rfl) (by kernel_rfl) (by kernel_rfl) (fun _ _ _ h=>h) (Or.inl ⟨by rfl,?_⟩) trivial (fun _=>hS1) ?_
    rotate_left
    ·intro w0 _;go_simp;(try with_reducible rfl)
    (try simp only [Act.put,List.getElem_toArray,List.getElem_cons_zero,List.getElem_cons_succ,List.setIfInBounds_toArray,List.set_cons_zero,List.set_cons_succ])
    refine anyC_take (i:=11) (v:=?_) rfl rfl (by decide) (by kernel_rfl) (by kernel_rfl) (by kernel_rfl) (fun _ _ _ h=>h) (Or.inl ⟨by rfl,?_⟩) trivial (fun _=>hS1) ?_
    rotate_left
    ·intro w0 _;go_simp;(try with_reducible rfl)
    (try simp only [Act.put,List.getElem_toArray,List.getElem_cons_zero,List.getElem_cons_succ,List.setIfInBounds_toArray,List.set_cons_zero,List.set_cons_succ])
    refine anyC_take (i:=12) (v:=?_) rfl rfl (by decide) (by kernel_rfl) (by kernel_rfl) (by kernel_rfl) (fun _ _ _ h=>h) (Or.inl ⟨by rfl,?_⟩) trivial (fun _=>hS1) ?_
    rotate_left
    ·intro w0 _;go_simp;(try with_reducible rfl)
    (try simp only [Act.put,List.getElem_toArray,List.getElem_cons_zero,List.getElem_cons_succ,List.setIfInBounds_toArray,List.set_cons_zero,List.set_cons_succ])
    refine anyC_one (i:=13) (by kernel_rfl) rfl (fun K hK=>?_)
    refine step_append_byt _ (by kernel_rfl) _ _ 22 (by rfl) (g+1) 5 i0 (.int .u8 0) Tryz.underlying22 hi0 hz0 hz1 hz2 rfl _ _ (by rfl) (Own.nil _ _ _) _ _ _ _ _ (by rfl) HQ.out (by rfl) (by simp;omega) (by simp;omega) ?_
    intro u6 w6 ho6 hg6
    obtain ⟨p6,c6,rfl,hbod⟩:=Own.bod ho6 (n:=4+B - (4+A)) (by simp [HYL.eq]) (by simpa using HYR.out)
    have hb6:=grownNil_below hg6
    have HO6:=hidden hbod
    have HR6:=hidden (HRD.out.below hb6)
    have HD6:=hidden (HDD.out.below hb6)
    have HB6:=hidden (HBRD.out.trans (hb6.mono HBRD.out.size))
    have hs6:=HD6.out.lt
    have hd6:=HD6.out.c1
    clear d0 d1 df ho6 hg6 hbod hb6 hS1
    refine hK.out _ _ trivial (fun _=>hd6) ?_
    clear hK K
    (try simp only [Act.put,List.getElem_toArray,List.getElem_cons_zero,List.getElem_cons_succ,List.setIfInBounds_toArray,List.set_cons_zero,List.set_cons_succ])
    refine anyC_one (i:=14) (by kernel_rfl) rfl (fun K hK=>?_)
    go_simp
    refine hK.out _ _ trivial (fun _=>cell_below ((Below.refl _ _).alloc (Nat.le_refl _) _) _ _ hd6) ?_
    clear hK K
    (try simp only [Act.put,List.getElem_toArray,List.getElem_cons_zero,List.getElem_cons_succ,List.setIfInBounds_toArray,List.set_cons_zero,List.set_cons_succ])
    refine anyC_one (i:=15) (by kernel_rfl) rfl (fun K hK=>?_)
    refine step_append_g knownSb (by simp [NSb,KSb]) _ (by kernel_rfl) _ _ (by rfl) (g+1) _ l (by rfl) (HR6.out.alloc _) _ 1 1 [⟨p6,4+B - (4+A),c6,[]++Y⟩] (by rfl) (srcSb w6 ⟨p6,4+B - (4+A),c6,[]++Y⟩ _) (fun x hx=>by rw [List.mem_singleton.1 hx];exact HO6.out.alloc _) (by rw [HLJ.eq];unfold maxLen;omega) (by rw [HLJ.eq];omega) (by simp;omega) ?_
    intro v7 w7 hr7 hg7
    obtain ⟨p7,c7,rfl⟩:=hr7.form (n:=j+1) (by simp [HLJ.eq])
    have hown : ∀ k,s.ownBlock=some k→g+1≤k:=fun k hk=>(HR6.out.lt k hk).1
    have hd7:=(HD6.out.below ((Below.refl _ _).alloc (Nat.le_refl _) (.cells #[.slice p6 (4+B - (4+A)) c6] 22))).grown hg7 (fun e=>by have:=hown g e.symm;omega)
    have HD7:=hidden hd7
    have hgb:Below g wg (w7.setCell ⟨g,1,none⟩ (.slice p7 (j+1) c7)):=by
     have h0:=HB6.out.alloc HB6.out.size (.cells #[.slice p6 (4+B - (4+A)) c6] 22)
     have h1:=HBR.out.trans (h0.mono (show g≤wr.heap.size by omega))
     exact (h1.grown hg7 (by have:=h0.size;omega) (fun k hk=>by have:=hown k hk;omega)).setCell (p:=⟨g,1,none⟩) (Nat.le_refl g) _
    have hrw:=hr7.low (grown_set w7 g 1 (.slice p7 (j+1) c7)) (Nat.lt_succ_self g)
    have hdl:=HD7.out.setV (.slice p7 (j+1) c7)
    have HGB:=hidden hgb
    have HRW2:=hidden hrw
    have HDL2:=hidden hdl
    clear hgb hrw hdl hr7 hg7 hown hd6
    obtain ⟨f0,f1,ff⟩:=hd7
    refine hK.out _ _ trivial (fun h=>nomatch (h.symm.trans (by kernel_rfl):false=true)) ?_
    clear hK K
    (try simp only [Act.put,List.getElem_toArray,List.getElem_cons_zero,List.getElem_cons_succ,List.setIfInBounds_toArray,List.set_cons_zero,List.set_cons_succ])
    refine anyC_take (i:=16) (v:=?_) rfl rfl (by decide) (by kernel_rfl) (by kernel_rfl) (by kernel_rfl) (fun _ _ _ h=>h) (Or.inl ⟨by rfl,?_⟩) trivial (fun h=>nomatch (h.symm.trans (by kernel_rfl):false=true)) ?_
    rotate_left
    ·intro w0 _;go_simp;(try with_reducible rfl)
    (try simp only [Act.put,List.getElem_toArray,List.getElem_cons_zero,List.getElem_cons_succ,List.setIfInBounds_toArray,List.set_cons_zero,List.set_cons_succ])
    refine anyC_one (i:=17) (by kernel_rfl) rfl (fun K hK=>?_)
    go_simp
    refine hK.out _ _ trivial (fun h=>nomatch (h.symm.trans (by kernel_rfl):false=true)) ?_
    clear hK K f0 f1 ff
    (try simp only [Act.put,List.getElem_toArray,List.getElem_cons_zero,List.getElem_cons_succ,List.setIfInBounds_toArray,List.set_cons_zero,List.set_cons_succ])
    refine anyC_done (by kernel_rfl) ?_ _
    go_wp2
    go_roundw
    case rel=>exact ⟨j+1,l++[⟨p6,4+B - (4+A),c6,[]++Y⟩],.slice p7 (j+1) c7,by omega,by go_num,by simp [HLJ.eq],HDL2.out,HRW2.out,by rw [List.map_append,HSU.eq,HXS.eq];rfl,HGB.out⟩
    case measure=>simp [intOf];omega
   ·have hge:¬ (j:Int)<(M:Int):=by omega
    have hjM:j=M:=by omega
    obtain ⟨ps,cs,rfl,hrd⟩:=HRW.out.sbs HLJ.eq
    have hcs4:(Z=0∧M=0)∨Z=4:=by
     rcases HCS.out with h | h
     ·exact Or.inl h
     ·exact Or.inr h.1
    have hxs2:l.map Sb.xs=spisL (xs.drop 4) Z M:=by rw [←hjM];exact HXS.eq
    have hdup:=twiceW_dup (l.map Sb.xs) (by rw [hxs2];exact spisL_four _ Z M hcs4 (by rw [List.length_drop,hlen];exact HLM.eq)) (fun y hy=>by
     obtain ⟨x,hx,rfl⟩:=List.mem_map.1 hy
     exact (hrd.ok x hx).rng)
    have HTW:=hidden (rtwice_any ps j cs l wr hrd)
    have HRR:=hidden (HRG.out.belowB HBR.out (show w.heap.size<g from by omega))
    have HFE:=HFN.out
    rw [←hxs2] at HFE
    have HX2:=Is.mk hxs2
    have HRb:=hidden (HPW.out)
    clear hxs2 hcs4 hrd hjM
    obtain ⟨e0,e1,ef⟩:=HDL.out
    by_cases hd:Dup (l.map Sb.xs)
    ·rw [if_pos (hdup.2 hd)] at HFE
     subst HFE
     have HD:=hidden hd
     clear hdup hd
     go_upto_region 19 with (first
      | (go_at_call 61;(with_reducible refine (HTW.out).mono ?_);rintro e w5 ⟨r,rfl,hr,hb5⟩;obtain rfl:r=true:=hr.2 HD.out;have HR5:=hidden (HRR.out.below hb5);have HB5:=hidden (HRb.out.trans (hb5.mono HRb.out.size));obtain ⟨k0,k1,kf⟩:=HR5.out;clear hb5 hr)
      | fail)
     have HZ:=hidden (DlIn.setAll HR5.out 0 (.slice none 0 0))
     have HBZ:=hidden ((HB5.out.setCell (p:=⟨w.heap.size,0,none⟩) (Nat.le_refl w.heap.size) (.int .i64 0)).setCell (p:=⟨w.heap.size,1,none⟩) (Nat.le_refl w.heap.size) (.slice none 0 0))
     go_wp2
     exact ret_dl6 (g:=w.heap.size) (s:=nilV) rfl rfl rfl rfl HZ.out ⟨0,nilV,rfl,HBZ.out,fun h=>absurd h (by decide)⟩
    ·rw [if_neg (fun h=>hd (hdup.1 h))] at HFE
     subst HFE
     have HD:=hidden hd
     clear hdup hd
     go_upto_region 20 with (first
      | (go_at_call 61;(with_reducible refine (HTW.out).mono ?_);rintro e w5 ⟨r,rfl,hr,hb5⟩;obtain rfl:r=false:=(by cases r;rfl;exact absurd (hr.1 rfl) HD.out);have HR5:=hidden (HRR.out.below hb5);have HD5:=hidden (HDL.out.below hb5);have HW5:=hidden (HRW.out.below hb5);have HB5:=hidden (HRb.out.trans (hb5.mono HRb.out.size));obtain ⟨k0,k1,kf⟩:=HR5.out;obtain ⟨d0,d1,df⟩:=HD5.out;clear hb5 hr)
      | fail)
     have HZ:=hidden (DlIn.setAll HR5.out x0 (.slice ps j cs))
     have HBZ:=hidden ((HB5.out.setCell (p:=⟨w.heap.size,0,none⟩) (Nat.le_refl w.heap.size) (.int .i64 x0)).setCell (p:=⟨w.heap.size,1,none⟩) (Nat.le_refl w.heap.size) (.slice ps j cs))
     have HWZ:=hidden ((HW5.out.low (grown_trans (grown_set w5 w.heap.size 0 (.int .i64 x0)) (grown_set _ w.heap.size 1 (.slice ps j cs))) (show w.heap.size<g+1 by omega)).mono (show w.heap.size≤g+1 by omega))
     have hne:¬ g=w.heap.size:=by omega
     go_wp2
     exact ret_dl6 (g:=w.heap.size) (s:=⟨ps,j,cs⟩) rfl rfl rfl rfl HZ.out ⟨x0,⟨ps,j,cs⟩,rfl,HBZ.out,fun _=>⟨HE0.eq.symm,l,HWZ.out,by rw [HE1.eq,HET.eq];simpa using HX2.eq,HLJ.eq⟩⟩
end Go.Proofs.YtgpigjoonhghhaaGreat

namespace Go.Proofs.YtgpigjoonhghhaaGreat
open Go.RowKit
set_option linter.unusedVariables false
theorem PvIn.put33 {w:World} {g:Nat} {x:Pv} (h:PvIn w g x) (pr:Sv):PvIn (w.setCell ⟨g,1,none⟩ (.slice pr.p pr.n pr.c)) g { x with pr:=pr }:=by
 obtain ⟨c0,c1,c2,c3,c4,c5,c6,c7,c8,c9,c10,c11,c12,c13,c14,c15,fr⟩:=h
 exact ⟨by go_simp,by go_simp,by go_simp,by go_simp,by go_simp,by go_simp,by go_simp,by go_simp,by go_simp,by go_simp,by go_simp,by go_simp,by go_simp,by go_simp,by go_simp,by go_simp,fun j=>by simp only [World.frozen?_setCell];exact fr j⟩
theorem put33_grown (w:World) (g:Nat) (pr:Sv):w.grownBy (w.setCell ⟨g,1,none⟩ (.slice pr.p pr.n pr.c)) (some g):=grown_set _ _ _ _
theorem PvIn.put34 {w:World} {g:Nat} {x:Pv} (h:PvIn w g x) (eg:Int) (ed:Sv):PvIn ((w.setCell ⟨g,2,none⟩ (.int .i64 eg)).setCell ⟨g,3,none⟩ (.slice ed.p ed.n ed.c)) g { x with eg:=eg,ed:=ed }:=by
 obtain ⟨c0,c1,c2,c3,c4,c5,c6,c7,c8,c9,c10,c11,c12,c13,c14,c15,fr⟩:=h
 exact ⟨by go_simp,by go_simp,by go_simp,by go_simp,by go_simp,by go_simp,by go_simp,by go_simp,by go_simp,by go_simp,by go_simp,by go_simp,by go_simp,by go_simp,by go_simp,by go_simp,fun j=>by simp only [World.frozen?_setCell];exact fr j⟩
theorem put34_grown (w:World) (g:Nat) (eg:Int) (ed:Sv):w.grownBy ((w.setCell ⟨g,2,none⟩ (.int .i64 eg)).setCell ⟨g,3,none⟩ (.slice ed.p ed.n ed.c)) (some g):=grown_trans (grown_set _ _ _ _) (grown_set _ _ _ _)
theorem PvIn.put35 {w:World} {g:Nat} {x:Pv} (h:PvIn w g x) (ik:Int) (id:Sv):PvIn ((w.setCell ⟨g,4,none⟩ (.int .i64 ik)).setCell ⟨g,5,none⟩ (.slice id.p id.n id.c)) g { x with ik:=ik,id:=id }:=by
 obtain ⟨c0,c1,c2,c3,c4,c5,c6,c7,c8,c9,c10,c11,c12,c13,c14,c15,fr⟩:=h
 exact ⟨by go_simp,by go_simp,by go_simp,by go_simp,by go_simp,by go_simp,by go_simp,by go_simp,by go_simp,by go_simp,by go_simp,by go_simp,by go_simp,by go_simp,by go_simp,by go_simp,fun j=>by simp only [World.frozen?_setCell];exact fr j⟩
theorem put35_grown (w:World) (g:Nat) (ik:Int) (id:Sv):w.grownBy ((w.setCell ⟨g,4,none⟩ (.int .i64 ik)).setCell ⟨g,5,none⟩ (.slice id.p id.n id.c)) (some g):=grown_trans (grown_set _ _ _ _) (grown_set _ _ _ _)
theorem PvIn.put39 {w:World} {g:Nat} {x:Pv} (h:PvIn w g x) (am:Int) (ad:Sv):PvIn ((w.setCell ⟨g,6,none⟩ (.int .i64 am)).setCell ⟨g,7,none⟩ (.slice ad.p ad.n ad.c)) g { x with am:=am,ad:=ad }:=by
 obtain ⟨c0,c1,c2,c3,c4,c5,c6,c7,c8,c9,c10,c11,c12,c13,c14,c15,fr⟩:=h
 exact ⟨by go_simp,by go_simp,by go_simp,by go_simp,by go_simp,by go_simp,by go_simp,by go_simp,by go_simp,by go_simp,by go_simp,by go_simp,by go_simp,by go_simp,by go_simp,by go_simp,fun j=>by simp only [World.frozen?_setCell];exact fr j⟩
theorem put39_grown (w:World) (g:Nat) (am:Int) (ad:Sv):w.grownBy ((w.setCell ⟨g,6,none⟩ (.int .i64 am)).setCell ⟨g,7,none⟩ (.slice ad.p ad.n ad.c)) (some g):=grown_trans (grown_set _ _ _ _) (grown_set _ _ _ _)
theorem PvIn.put41 {w:World} {g:Nat} {x:Pv} (h:PvIn w g x) (np:Int) (ns:Sv) (nt:Int) (nd:Sv):PvIn ((((w.setCell ⟨g,8,none⟩ (.int .i64 np)).setCell ⟨g,9,none⟩ (.slice ns.p ns.n ns.c)).setCell ⟨g,10,none⟩ (.int .i64 nt)).setCell ⟨g,11,none⟩ (.slice nd.p nd.n nd.c)) g { x with np:=np,ns:=ns,nt:=nt,nd:=nd }:=by
 obtain ⟨c0,c1,c2,c3,c4,c5,c6,c7,c8,c9,c10,c11,c12,c13,c14,c15,fr⟩:=h
 exact ⟨by go_simp,by go_simp,by go_simp,by go_simp,by go_simp,by go_simp,by go_simp,by go_simp,by go_simp,by go_simp,by go_simp,by go_simp,by go_simp,by go_simp,by go_simp,by go_simp,fun j=>by simp only [World.frozen?_setCell];exact fr j⟩
theorem put41_grown (w:World) (g:Nat) (np:Int) (ns:Sv) (nt:Int) (nd:Sv):w.grownBy ((((w.setCell ⟨g,8,none⟩ (.int .i64 np)).setCell ⟨g,9,none⟩ (.slice ns.p ns.n ns.c)).setCell ⟨g,10,none⟩ (.int .i64 nt)).setCell ⟨g,11,none⟩ (.slice nd.p nd.n nd.c)) (some g):=grown_trans (grown_trans (grown_trans (grown_set _ _ _ _) (grown_set _ _ _ _)) (grown_set _ _ _ _)) (grown_set _ _ _ _)
theorem PvIn.put42 {w:World} {g:Nat} {x:Pv} (h:PvIn w g x) (dp:Int) (ds:Sv):PvIn ((w.setCell ⟨g,12,none⟩ (.int .i64 dp)).setCell ⟨g,13,none⟩ (.slice ds.p ds.n ds.c)) g { x with dp:=dp,ds:=ds }:=by
 obtain ⟨c0,c1,c2,c3,c4,c5,c6,c7,c8,c9,c10,c11,c12,c13,c14,c15,fr⟩:=h
 exact ⟨by go_simp,by go_simp,by go_simp,by go_simp,by go_simp,by go_simp,by go_simp,by go_simp,by go_simp,by go_simp,by go_simp,by go_simp,by go_simp,by go_simp,by go_simp,by go_simp,fun j=>by simp only [World.frozen?_setCell];exact fr j⟩
theorem put42_grown (w:World) (g:Nat) (dp:Int) (ds:Sv):w.grownBy ((w.setCell ⟨g,12,none⟩ (.int .i64 dp)).setCell ⟨g,13,none⟩ (.slice ds.p ds.n ds.c)) (some g):=grown_trans (grown_set _ _ _ _) (grown_set _ _ _ _)
theorem PvIn.put44 {w:World} {g:Nat} {x:Pv} (h:PvIn w g x) (se:Sv):PvIn (w.setCell ⟨g,14,none⟩ (.slice se.p se.n se.c)) g { x with se:=se }:=by
 obtain ⟨c0,c1,c2,c3,c4,c5,c6,c7,c8,c9,c10,c11,c12,c13,c14,c15,fr⟩:=h
 exact ⟨by go_simp,by go_simp,by go_simp,by go_simp,by go_simp,by go_simp,by go_simp,by go_simp,by go_simp,by go_simp,by go_simp,by go_simp,by go_simp,by go_simp,by go_simp,by go_simp,fun j=>by simp only [World.frozen?_setCell];exact fr j⟩
theorem put44_grown (w:World) (g:Nat) (se:Sv):w.grownBy (w.setCell ⟨g,14,none⟩ (.slice se.p se.n se.c)) (some g):=grown_set _ _ _ _
theorem PvIn.put40 {w:World} {g:Nat} {x:Pv} (h:PvIn w g x) (da:Sv):PvIn (w.setCell ⟨g,15,none⟩ (.slice da.p da.n da.c)) g { x with da:=da }:=by
 obtain ⟨c0,c1,c2,c3,c4,c5,c6,c7,c8,c9,c10,c11,c12,c13,c14,c15,fr⟩:=h
 exact ⟨by go_simp,by go_simp,by go_simp,by go_simp,by go_simp,by go_simp,by go_simp,by go_simp,by go_simp,by go_simp,by go_simp,by go_simp,by go_simp,by go_simp,by go_simp,by go_simp,fun j=>by simp only [World.frozen?_setCell];exact fr j⟩
theorem put40_grown (w:World) (g:Nat) (da:Sv):w.grownBy (w.setCell ⟨g,15,none⟩ (.slice da.p da.n da.c)) (some g):=grown_set _ _ _ _
structure RPq (w wx:World) (t:Int) (p:Option Addr) (n c:Nat) (x:Pv):Prop where
 r0:wx.cell? ⟨w.heap.size,0,none⟩=some (.int .i64 t)
 r2:wx.cell? ⟨w.heap.size,2,none⟩=some (.slice p n c)
 R:PvIn wx (w.heap.size+1) zeroP
 S:PvIn wx (w.heap.size+1+1) x
 bel:Below w.heap.size w wx
section
variable {w wx wy:World} {t:Int} {p:Option Addr} {n c:Nat} {x:Pv}
theorem RPq.below (h:RPq w wx t p n c x) (hb:Below wx.heap.size wx wy):RPq w wy t p n c x :=
 ⟨cell_below hb _ _ h.r0,cell_below hb _ _ h.r2,h.R.below hb,h.S.below hb,h.bel.trans (hb.mono h.bel.size)⟩
theorem RPq.drew (h:RPq w wx t p n c x):RPq w wx.drew t p n c x:=h.below (drew_below ⟨1,rfl⟩)
theorem RPq.put (h:RPq w wx t p n c x) (hg:wx.grownBy wy (some (w.heap.size+1+1))) {y:Pv} (hy:PvIn wy (w.heap.size+1+1) y):RPq w wy t p n c y :=
 ⟨hg.cell h.r0 (by simp;omega),hg.cell h.r2 (by simp;omega),h.R.grown hg (by simp),hy,h.bel.grown hg h.bel.size (fun j e=>by cases e;omega)⟩
theorem RPq.ge (h:RPq w wx t p n c x):w.heap.size+1+1+1≤wx.heap.size:=h.S.lt
theorem RPq.new (w:World) (t:Int) (cr:Bool) (p:Option Addr) (n c:Nat):RPq w (((w.alloc (.cells #[.int .i64 t,.bool cr,.slice p n c] 51)).alloc (.cells #[.int .i64 0,.slice none 0 0,.int .i64 0,.slice none 0 0,.int .i64 0,.slice none 0 0,.int .i64 0,.slice none 0 0,.int .i64 0,.slice none 0 0,.int .i64 0,.slice none 0 0,.int .i64 0,.slice none 0 0,.slice none 0 0,.slice none 0 0] 49)).alloc (.cells #[.int .i64 t,.slice none 0 0,.int .i64 0,.slice none 0 0,.int .i64 0,.slice none 0 0,.int .i64 0,.slice none 0 0,.int .i64 0,.slice none 0 0,.int .i64 0,.slice none 0 0,.int .i64 0,.slice none 0 0,.slice none 0 0,.slice none 0 0] 49)) t p n c { zeroP with t:=t }:=by
 refine ⟨by go_simp,by go_simp,?_,?_,(((Below.refl w.heap.size w).alloc (Nat.le_refl _) _).alloc (by simp) _).alloc (by simp;omega) _⟩
 ·have:=(PvIn.new (w.alloc (.cells #[.int .i64 t,.bool cr,.slice p n c] 51)) zeroP 49)
  have h2:=this.alloc (.cells #[.int .i64 t,.slice none 0 0,.int .i64 0,.slice none 0 0,.int .i64 0,.slice none 0 0,.int .i64 0,.slice none 0 0,.int .i64 0,.slice none 0 0,.int .i64 0,.slice none 0 0,.int .i64 0,.slice none 0 0,.slice none 0 0,.slice none 0 0] 49)
  simpa [zeroP,nilV] using h2
 ·have:=PvIn.new ((w.alloc (.cells #[.int .i64 t,.bool cr,.slice p n c] 51)).alloc (.cells #[.int .i64 0,.slice none 0 0,.int .i64 0,.slice none 0 0,.int .i64 0,.slice none 0 0,.int .i64 0,.slice none 0 0,.int .i64 0,.slice none 0 0,.int .i64 0,.slice none 0 0,.int .i64 0,.slice none 0 0,.slice none 0 0,.slice none 0 0] 49)) { zeroP with t:=t } 49
  simpa [zeroP,nilV] using this
end
def RDone (w wx:World) (t:Int) (p:Option Addr) (n c:Nat) (xs:List Int) (E:Int):Prop:=∃ x,RPq w wx t p n c x∧(E=0→x.t=t∧(gdK t xs).ok (w.heap.size+1+1+1) wx x)
end Go.Proofs.YtgpigjoonhghhaaGreat

namespace Go.Proofs.YtgpigjoonhghhaaGreat
open Go.RowKit
set_option linter.unusedVariables false
set_option maxHeartbeats 3200000 in
set_option maxRecDepth 100000 in
theorem mkpay35 (W w:World) (k:Nat) (h:Cod W w k):Calls Tryz.prog 15 #[.pointer (some ⟨k,0,none⟩),.int .i64 35] w (MadePv W w k 35):=by
 have hk:=h.lt
 have hbase:=h.bel.size
 have H0:=hidden (PyS.new h 35)
 clear h
 go_enter Tryz.func15,Tryz.ntmps15
 go_upto_region 2 with fail
 generalize hw0:(w.alloc (.cells #[.int .i64 0,.slice none 0 0,.int .i64 0,.slice none 0 0,.int .i64 0,.slice none 0 0,.int .i64 0,.slice none 0 0,.int .i64 0,.slice none 0 0,.int .i64 0,.slice none 0 0,.int .i64 0,.slice none 0 0,.slice none 0 0,.slice none 0 0] 49)).alloc (.cells #[.int .i64 35,.slice none 0 0,.int .i64 0,.slice none 0 0,.int .i64 0,.slice none 0 0,.int .i64 0,.slice none 0 0,.int .i64 0,.slice none 0 0,.int .i64 0,.slice none 0 0,.int .i64 0,.slice none 0 0,.slice none 0 0,.slice none 0 0] 49)=w0 at *
 clear hw0
 have hk0:k<w0.heap.size:=by have:=H0.out.ge;omega
 go_upto_region 2 with fail
 go_upto_block 0 with fail
 go_cut [] from 9 to 114 (fun wx=>∃ (t:Int) (p:Option Addr) (n c:Nat) (ys:List Int),PyS W w wx k ⟨35,nilV,0,nilV,t,⟨p,n,c⟩,0,nilV,0,nilV,0,nilV,0,nilV,nilV,nilV⟩∧(0≤t∧t≤65535)∧((t=2∨t=3∨t=11)∧1≤n∧n≤100)∧∀ w',Kpt wx w' (w.heap.size+2)→Byt w' p n c ys)
 case first =>
  go_wp2_with fail
  go_region_law (first
   | (go_simp;go_at_call_of 10 (Value.int IntKind.i64 3);(with_reducible refine (next_pa H0 hk _ ?_ _ ?_).mono ?_);(repeat' (first | with_reducible exact H0.out | (with_reducible refine PyS.alloc ?_ _) | (with_reducible refine PyS.drew ?_)));omega;rintro e wA ⟨j,rfl,j0,j1,hdA,hgA⟩;obtain ⟨j,rfl⟩:=Int.eq_ofNat_of_zero_le j0;obtain ⟨t,hta,htl,t0,t1,tv⟩:=lst35 j (by omega);(try have hcA:wA.cell? ⟨w0.heap.size,j,none⟩=some (.int .i64 t):=row_cell w0 wA k _ _ j _ htl hk0 (grown_trans (grown_drewN _ 1 _) hgA)))
   | (go_simp;go_at_call_of 10 (Value.int IntKind.i64 6);(with_reducible refine (next_pa H0 hk _ ?_ _ ?_).mono ?_);(first | exact hdA | exact hdA.alloc _);omega;rintro e wB ⟨v,rfl,v0,v1,hdB,hgB⟩;obtain ⟨v,rfl⟩:=Int.eq_ofNat_of_zero_le v0;have hwv:IntKind.i64.wrap (1+(v:Int))=((1+v:Nat):Int):=(by rw [IntKind.wrap_i64];omega);have hkA:=hdA.cod.lt;(try have hcB:wB.cell? ⟨w0.heap.size,j,none⟩=some (.int .i64 t):=hgB.cell hcA (by simp;omega));(try have hcC:wB.cell? ⟨wA.heap.size,j,none⟩=some (.int .i64 t):=row_cell wA wB k _ _ j _ htl hkA hgB))
   | (go_simp;go_at_call 34;(refine (bytes_pa H0 hk _ ?_ (1+v) ?_).mono ?_);(first | exact hdB | exact hdB.alloc _);omega;rintro e wY ⟨p,c,ys,rfl,hbY,hdY,hgY⟩;have hkB:=hdB.cod.lt;(try have hcY1:wY.cell? ⟨w0.heap.size,j,none⟩=some (.int .i64 t):=hgY.cell hcB (by simp;omega));(try have hcY2:wY.cell? ⟨wA.heap.size,j,none⟩=some (.int .i64 t):=hgY.cell hcC (by simp;omega));(try have hcY3:wY.cell? ⟨wB.heap.size,j,none⟩=some (.int .i64 t):=row_cell wB wY k _ _ j _ htl hkB hgY);have hn1:¬ w.heap.size+1=wY.heap.size:=(by have:=hdY.ge;omega);have hn2:¬ w.heap.size=wY.heap.size:=(by have:=hdY.ge;omega);have hn3:¬ wY.heap.size=w.heap.size+1:=(by have:=hdY.ge;omega);have hn4:¬ wY.heap.size=w.heap.size:=(by have:=hdY.ge;omega);have hq1:w.heap.size+1<wY.heap.size:=(by have:=hdY.ge;omega);have hq2:w.heap.size<wY.heap.size:=(by have:=hdY.ge;omega);have s4:=hdY.S.c4;have s5:=hdY.S.c5;have sf:=hdY.S.fr;simp only [zeroP,nilV] at s4 s5;have HDY:=hidden hdY;have HBY:=hidden hbY;clear hdY hbY))
  all_goals
   clear s4 s5 sf
   go_wp2
   go_meet
  all_goals first
   | (have q:=hcY1;clear q;exact ⟨t,p,(1+v),c,ys,(HDY.out.put hk hbase (wy:=((wY.setCell ⟨w.heap.size+1,4,none⟩ (.int .i64 t)).setCell ⟨w.heap.size+1,5,none⟩ (.slice p (1+v) c))) (grown_trans (grown_set _ _ _ _) (grown_set _ _ _ _)) (x':=⟨35,nilV,0,nilV,t,⟨p,(1+v),c⟩,0,nilV,0,nilV,0,nilV,0,nilV,nilV,nilV⟩) (HDY.out.S.setI t ⟨p,(1+v),c⟩)),⟨t0,t1⟩,⟨tv,by omega,by omega⟩,fun w' hk'=>HBY.out.kp (((Kpt.low (grown_set _ _ _ _) (by omega)).trans (Kpt.low (grown_set _ _ _ _) (by omega))).trans hk')⟩)
   | (have q:=hcY2;clear q;exact ⟨t,p,(1+v),c,ys,(HDY.out.put hk hbase (wy:=((wY.setCell ⟨w.heap.size+1,4,none⟩ (.int .i64 t)).setCell ⟨w.heap.size+1,5,none⟩ (.slice p (1+v) c))) (grown_trans (grown_set _ _ _ _) (grown_set _ _ _ _)) (x':=⟨35,nilV,0,nilV,t,⟨p,(1+v),c⟩,0,nilV,0,nilV,0,nilV,0,nilV,nilV,nilV⟩) (HDY.out.S.setI t ⟨p,(1+v),c⟩)),⟨t0,t1⟩,⟨tv,by omega,by omega⟩,fun w' hk'=>HBY.out.kp (((Kpt.low (grown_set _ _ _ _) (by omega)).trans (Kpt.low (grown_set _ _ _ _) (by omega))).trans hk')⟩)
   | (have q:=hcY3;clear q;exact ⟨t,p,(1+v),c,ys,(HDY.out.put hk hbase (wy:=((wY.setCell ⟨w.heap.size+1,4,none⟩ (.int .i64 t)).setCell ⟨w.heap.size+1,5,none⟩ (.slice p (1+v) c))) (grown_trans (grown_set _ _ _ _) (grown_set _ _ _ _)) (x':=⟨35,nilV,0,nilV,t,⟨p,(1+v),c⟩,0,nilV,0,nilV,0,nilV,0,nilV,nilV,nilV⟩) (HDY.out.S.setI t ⟨p,(1+v),c⟩)),⟨t0,t1⟩,⟨tv,by omega,by omega⟩,fun w' hk'=>HBY.out.kp (((Kpt.low (grown_set _ _ _ _) (by omega)).trans (Kpt.low (grown_set _ _ _ _) (by omega))).trans hk')⟩)
   | (exact ⟨t,p,(1+v),c,ys,(HDY.out.put hk hbase (wy:=((wY.setCell ⟨w.heap.size+1,4,none⟩ (.int .i64 t)).setCell ⟨w.heap.size+1,5,none⟩ (.slice p (1+v) c))) (grown_trans (grown_set _ _ _ _) (grown_set _ _ _ _)) (x':=⟨35,nilV,0,nilV,t,⟨p,(1+v),c⟩,0,nilV,0,nilV,0,nilV,0,nilV,nilV,nilV⟩) (HDY.out.S.setI t ⟨p,(1+v),c⟩)).alloc _,⟨t0,t1⟩,⟨tv,by omega,by omega⟩,fun w' hk'=>HBY.out.kp ((((Kpt.low (grown_set _ _ _ _) (by omega)).trans (Kpt.low (grown_set _ _ _ _) (by omega))).trans (Kpt.alloc _ _ _)).trans hk')⟩)
 case rest =>
  obtain ⟨t,p,n,c,ys,hd,ht,hv,hy⟩:=hcut
  have HV:=hidden hv
  clear hv
  have H2:=hidden hd
  have HY:=hidden hy
  have HT:=hidden ht
  rename World=>w2
  clear hd hy ht
  obtain ⟨y0,y1,y2,y3,y4,y5,y6,y7,y8,y9,y10,y11,y12,y13,y14,y15,z0_,z1_,z2_,z3_,z4_,z5_,z6_,z7_,z8_,z9_,z10_,z11_,z12_,z13_,z14_,z15_,zf⟩:=H2.out.R.any
  obtain ⟨s0,s1,s2,s3,s4,s5,s6,s7,s8,s9,s10,s11,s12,s13,s14,s15,sf⟩:=H2.out.S
  simp only [nilV] at s0 s1 s2 s3 s4 s5 s6 s7 s8 s9 s10 s11 s12 s13 s14 s15
  go_wp2
  have hz:=H2.out.ret hk hbase (wy:=w2) (grown_refl _ _) ⟨35,nilV,0,nilV,t,⟨p,n,c⟩,0,nilV,0,nilV,0,nilV,0,nilV,nilV,nilV⟩
  simp only [setPv,nilV] at hz
  exact ret_pv1 (g:=w.heap.size) rfl rfl rfl hz.1 (made_plain (C:={ C0 with id:=ys }) rfl rfl rfl (fun w' hk'=>⟨rdg_nil _ _ _,byt_nil _,HY.out w' hk',byt_nil _,byt_nil _,byt_nil _,rdg_nil _ _ _,rdg_nil _ _ _,byt_nil _⟩) hz.2.1 hz.2.2.1 hz.2.2.2 ((vld35 rfl).2 HV.out))
end Go.Proofs.YtgpigjoonhghhaaGreat

namespace Go.Proofs.YtgpigjoonhghhaaGreat
open Go.RowKit
set_option linter.unusedVariables false
section
variable {α:Type} {K:KindR α} {N:NestR α} {P:Program} {t:TypeId} {bytes:Nat}
theorem wpList_append_w (hk:KnownR P K t bytes) (he:K.e ∉ N.ts) (w:World) {ops:Array Oper} {rest:List Oper} {o:Oper} {a:Act} {Q:Exit→Act→World→Prop} (hw:Region.wanted o (yielded ops a.tmps)=true) (s x:Operand)
  (ho:o.op=.call { callee:=.builtin .append,args:=#[s,x],argTypes:=#[t,t] })
  (base:Nat) (v:Value) (l:List α) (hs:a.eval s=v) (hv:RowG K N w base v l)
  (p:Option Addr) (m c:Nat) (r:List α) (hx:a.eval x=.slice p m c) (hm:0<m) (hsrc:SrcG K w p m r) (hr : ∀ x∈r,N.ok w base x) (h63:l.length+m≤maxLen) (hbytes:(l.length+m)*bytes≤140737488355328) (hbase:base≤w.heap.size)
  (h : ∀ v' w',Hid (RowG K N w' base v' (l++r))→Hid (w.grownBy w' v.ownBlock)→Hid (∀ q,v'.ownBlock=some q→v.ownBlock=some q∨w.heap.size≤q)→wpList P ops Q rest (a.put o.dst v') w'):wpList P ops Q (o :: rest) a w :=
 wpList_step fun C hC=>step_append_w hk he w hw s x ho base v l hs hv p m c r hx hm hsrc hr h63 hbytes hbase fun v' w' h2 h3 h4=>hC _ _ (h v' w' h2 h3 h4)
end
def ElemP (R:World→Prop) (wr:World) (base0:Nat) (v:Value):Prop :=
 ∃ (w0:World) (base:Nat),(∀ W,Kpt w0 W base→R W)∧Kpt w0 wr base∧w0.heap.size≤wr.heap.size∧base0≤base∧(∀ q,v.ownBlock=some q→q<base∨w0.heap.size≤q)
theorem ElemP.new {R:World→Prop} {w0:World} {base0 base:Nat} {v:Value} (h : ∀ W,Kpt w0 W base→R W) (hb:base0≤base) (hv : ∀ q,v.ownBlock=some q→q<base):ElemP R w0 base0 v :=
 ⟨w0,base,h,Kpt.refl _ _,Nat.le_refl _,hb,fun q e=>.inl (hv q e)⟩
theorem ElemP.step {R:World→Prop} {wr wy:World} {base0:Nat} {v:Value} {row:Option Nat} (h:ElemP R wr base0 v) (hg:wr.grownBy wy row) (hr : ∀ q,row=some q→q<base0∨v.ownBlock=some q):ElemP R wy base0 v:=by
 obtain ⟨w0,base,h1,h2,h3,h4,h5⟩:=h
 refine ⟨w0,base,h1,fun a u ha hc=>?_,Nat.le_trans h3 hg.size,h4,h5⟩
 refine hg.cell (h2 a u ha hc) (fun e=>?_)
 have hlt:=World.block_lt_of_cell? w0 a hc
 rcases hr _ e.symm with h | h
 ·omega
 ·rcases h5 _ h with h | h<;>omega
theorem ElemP.below {R:World→Prop} {wr wy:World} {base0:Nat} {v:Value} (h:ElemP R wr base0 v) (hb:Below wr.heap.size wr wy):ElemP R wy base0 v:=h.step (grown_of_below hb none) (fun q e=>by cases e)
theorem ElemP.app {R:World→Prop} {wa wy:World} {base0:Nat} {v v':Value} (h:ElemP R wa base0 v) (hg:wa.grownBy wy v.ownBlock) (hq : ∀ q,v'.ownBlock=some q→v.ownBlock=some q∨wa.heap.size≤q):ElemP R wy base0 v':=by
 obtain ⟨w0,base,h1,h2,h3,h4,h5⟩:=h.step hg (fun q e=>.inr e)
 obtain ⟨w0',base',g1,g2,g3,g4,g5⟩:=h
 have hk:Kpt w0' wy base':=fun a u ha hc=>by
  refine hg.cell (g2 a u ha hc) (fun e=>?_)
  have hlt:=World.block_lt_of_cell? w0' a hc
  rcases g5 _ e.symm with h | h<;>omega
 exact ⟨w0',base',g1,hk,Nat.le_trans g3 hg.size,g4,fun q hv=>(hq q hv).elim (g5 q) (fun h=>.inr (by omega))⟩
theorem ElemP.out {R:World→Prop} {wr w':World} {base0:Nat} {v:Value} (h:ElemP R wr base0 v) (hk:Kpt wr w' base0):R w':=by
 obtain ⟨w0,base,h1,h2,h3,h4,h5⟩:=h
 exact h1 w' (h2.trans (hk.mono h4))
end Go.Proofs.YtgpigjoonhghhaaGreat
