/-
 What package proposal's Check returns.
 What package proposal's Build returns.
 What package proposal's Parse returns, for any bytes.
 What the laws of chapter 4 share: the example holds; Build's bytes as bytes; drawn proposals may be written.
 What the document's own Check of proposals returns.
 The notifications of a type (message.Notes): a list that is empty just if there is none.
 What the reader of chains returns for the next payload, and how it goes on.
-/
import Derived.Test.YtgpigjoonhghhaaGreatQZ15
import Derived.Test.YtgpigjoonhghhaaGreatQZ1
import Derived.Test.YtgpigjoonhghhaaGreatQZ3
import Derived.Test.YtgpigjoonhghhaaGreatQZ17
import Derived.Test.YtgpigjoonhghhaaGreatQZ11
import Derived.Test.YtgpigjoonhghhaaGreatQZ2
import Derived.Test.YtgpigjoonhghhaaGreatQZ0
import Derived.Laws.Bits64b
import Derived.Deep.RegionWith
namespace Go.Proofs.YtgpigjoonhghhaaGreat
open Go.RowKit
set_option linter.unusedVariables false
theorem errPrs_step (l:List Pr) (j:Nat) (hj:j<l.length):errPrs ((j:Int)+1) (l.drop j) =
  if errPr l[j] ((j:Int)+1)≠0 then errPr l[j] ((j:Int)+1) else errPrs (((j+1:Nat):Int)+1) (l.drop (j+1)):=by
 rw [List.drop_eq_getElem_cons hj,errPrs]
 rfl
theorem errPrs_stepP (ls:List PrP) (j:Nat) (hj:j<ls.length) (x:PrP) (hx:ls[j]=x) (E E1:Int) (hE:errPrs ((j:Int)+1) ((ls.map PrP.pr).drop j)=E) (hE1:errPr x.pr ((j:Int)+1)=E1) :
  E=if E1≠0 then E1 else errPrs (((j+1:Nat):Int)+1) ((ls.map PrP.pr).drop (j+1)):=by
 subst hE hE1 hx
 rw [errPrs_step _ _ (by simpa using hj)]
 simp
set_option maxHeartbeats 800000 in
theorem checkAll_any (p:Option Addr) (n c:Nat) (ls:List PrP) (w:World) (h:RdG KPr DPr w p n c ls) (E:Int) (hE:checkP (ls.map PrP.pr)=E) :
  Calls Tryz.prog 114 #[.slice p n c] w (ErrNew w E):=by
 have hn:=h.le
 have HT:=hidden h
 have HTL:=hidden h.len
 unfold checkP at hE
 rw [List.length_map,h.len] at hE
 clear h
 by_cases h0:n=0
 ·rw [if_pos h0] at hE
  subst h0
  go_enter Tryz.func114,Tryz.ntmps114
  go_wp2
  go_ret
  subst hE
  exact ⟨rfl,Below.refl _ _⟩
 rw [if_neg h0] at hE
 have h0':((n:Int) == 0)=false:=by simp;omega
 by_cases h8:8<n
 ·rw [if_pos h8] at hE
  go_enter Tryz.func114,Tryz.ntmps114
  go_wp2
  go_ret
  subst hE
  exact ⟨rfl,Below.refl _ _⟩
 rw [if_neg h8] at hE
 have HE:=hidden hE
 clear hE
 go_enter Tryz.func114,Tryz.ntmps114
 go_wp2_with fail
 go_loopw [16] (fun i wr=>∃ j:Nat,j≤n∧i=.int .i64 j∧errPrs ((j:Int)+1) ((ls.map PrP.pr).drop j)=E∧Below w.heap.size w wr) (fun i _=>n - (intOf i).toNat)
 case atStart=>exact ⟨0,by omega,rfl,by simpa using HE.out,Below.refl _ _⟩
 case round =>
  obtain ⟨j,hj,rfl,herr,hbel⟩:=hrel
  have HBL:=hidden hbel
  by_cases hlt:¬ j<n
  ·obtain rfl:j=n:=by omega
   rw [List.drop_of_length_le (by rw [List.length_map,HTL.out];exact Nat.le_refl _),errPrs] at herr
   have HER:=hidden herr
   clear herr hbel
   go_wp2
   go_ret
   have hE:=HER.out
   subst hE
   exact ⟨rfl,HBL.out⟩
  replace hlt:j<n:=by omega
  have hlt':(j:Int)<n:=by omega
  have htj:=HT.out.below hbel
  obtain ⟨g,rfl,hc,hok⟩:=htj.cell j (by rw [HTL.out];exact hlt)
  obtain ⟨y,hy⟩ : ∃ y,ls[j]'(by rw [HTL.out];exact hlt)=y:=⟨_,rfl⟩
  rw [hy] at hc hok
  obtain ⟨E1,hE1⟩ : ∃ E1,errPr y.pr ((j:Int)+1)=E1:=⟨_,rfl⟩
  have hst:=errPrs_stepP ls j (by rw [HTL.out];exact hlt) y hy E E1 herr hE1
  have c0:=hc 0 _ rfl
  have c1:=hc 1 _ rfl
  have c2:=hc 2 _ rfl
  have c3:=hc 3 _ rfl
  simp only [KPr,Nat.add_zero] at c0 c1 c2 c3
  have hal:Below wr.heap.size wr (wr.alloc (.cells #[.int .i64 y.n,.int .i64 y.p,.slice y.sp y.sn y.sc,.slice y.tp y.tn y.tc] 115)):=(Below.refl _ _).alloc (Nat.le_refl _) _
  have HC:=hidden (checkOne_any y ((j:Int)+1) _ (DPr.keep hok (cell_below hal)))
  rw [hE1] at HC
  have HB1:=hidden (HBL.out.trans (hal.mono HBL.out.size))
  have HST:=hidden hst
  have hj8:(j:Int)+1≤9:=by omega
  clear hc hok hst hal hE1 hy htj herr hbel
  go_wp2_with fail
  go_at_call 121
  (with_reducible refine (HC.out).mono ?_)
  rintro e w1 ⟨rfl,hb1⟩
  have HB2:=hidden (HB1.out.trans (hb1.mono HB1.out.size))
  clear hb1 c0 c1 c2 c3
  by_cases hz:E1=0
  ·subst hz
   have hst:=HST.out
   rw [if_neg (by simp)] at hst
   have HS:=hidden hst
   clear hst HST
   go_wp2
   go_roundw
   case rel=>exact ⟨j+1,by omega,by go_num,HS.out.symm,HB2.out⟩
   case measure=>simp [intOf];omega
  ·have hz':(E1 != 0)=true:=by simpa using hz
   have hst:=HST.out
   rw [if_pos hz] at hst
   have HS:=hidden hst
   clear hst HST hz
   go_wp2
   go_ret
   have hE:=HS.out
   subst hE
   exact ⟨rfl,HB2.out⟩
end Go.Proofs.YtgpigjoonhghhaaGreat

namespace Go.Proofs.YtgpigjoonhghhaaGreat
open Go.RowKit
set_option linter.unusedVariables false
theorem encPs_step (l:List Pr) (j:Nat) (hj:j<l.length) (x:Pr) (hx:l[j]=x):encPs (l.drop j)=secE (if j+1<l.length then 2 else 0) (inP x)++encPs (l.drop (j+1)):=by
 subst hx
 rw [List.drop_eq_getElem_cons hj,encPs,encP_sec,List.length_drop]
 by_cases h:j+1<l.length
 ·rw [if_neg (by omega),if_pos h]
 ·rw [if_pos (by omega),if_neg h]
theorem inP_rng (p:Pr) (h : ∀ z∈p.s,0≤z∧z≤255) : ∀ z∈inP p,0≤z∧z≤255:=by
 refine rng_append ?_ (rng_append h ?_)
 ·intro z hz;simp at hz;omega
 ·have : ∀ l:List Tr,∀ z∈encTs l,0≤z∧z≤255:=by
   intro l
   induction l with
   | nil=>intro z hz;simp [encTs] at hz
   | cons a l ih =>
    rw [encTs,encT_sec]
    exact rng_append (secE_rng _ _ (by split<;>omega) (inT_rng a)) ih
  exact this p.ts
def BuiltP (w:World) (L:List Int) (E:Int) (e:Ending) (w':World):Prop:=∃ v,e=.returned (.tuple #[v,.int .i64 E])∧Own w' w.heap.size 5 v L∧Below w.heap.size w w'
end Go.Proofs.YtgpigjoonhghhaaGreat

namespace Go.Proofs.YtgpigjoonhghhaaGreat
open Go.RowKit
set_option linter.unusedVariables false
def ParsedP (w:World) (r:List Pr × Int) (e:Ending) (w':World):Prop:=∃ (v:Value) (ls:List PrP),e=.returned (.tuple #[v,.int .i64 r.2])∧ls.map PrP.pr=r.1∧RowG KPr NPr w' w.heap.size v ls∧Below w.heap.size w w'
theorem parsed_fail (w w':World) (E:Int) (r:List Pr × Int) (hr:r=([],E)) (hb:Below w.heap.size w w'):ParsedP w r (.returned (.tuple #[.slice none 0 0,.int .i64 E])) w':=by
 subst hr
 exact ⟨_,[],rfl,rfl,RowG.nil _ _ _ _,hb⟩
set_option maxHeartbeats 800000 in
theorem pparse_any (p:Option Addr) (n c:Nat) (xs:List Int) (w:World) (h:Byt w p n c xs) (hn:n≤1048576) (r:List Pr × Int) (hr:parseP xs=r) :
  Calls Tryz.prog 100 #[.slice p n c] w (ParsedP w r):=by
 unfold parseP at hr
 rw [h.len] at hr
 by_cases h0:n=0
 ·rw [if_pos h0] at hr
  subst h0
  have HR:=hidden hr
  clear h hr
  go_enter Tryz.func100,Tryz.ntmps100
  go_wp2
  go_ret2
  exact parsed_fail _ _ _ _ HR.out.symm (Below.refl _ _)
 rw [if_neg h0] at hr
 have h0':((n:Int) == 0)=false:=by simp;omega
 obtain ⟨o,ho⟩ : ∃ o,prsV xs=o:=⟨_,rfl⟩
 have HC:=hidden (read_any p n c xs w h hn o ho)
 rw [ho] at hr
 have HO:=hidden ho
 have HRG:=hidden h.rng
 have HL:=hidden h.len
 have HR:=hidden hr
 clear h ho hr
 go_enter Tryz.func100,Tryz.ntmps100
 go_wp2_with fail
 go_at_call 113
 (with_reducible refine (HC.out).mono ?_)
 rintro e w1 ⟨hb1,hh⟩
 have HB1:=hidden hb1
 cases o with
 | none =>
  subst hh
  clear hb1
  go_wp2
  go_ret2
  exact parsed_fail _ _ _ _ HR.out.symm HB1.out
 | some l =>
  obtain ⟨v,ls,rfl,hl,hrow⟩:=hh
  obtain ⟨q,d,rfl⟩:=hrow.form rfl
  have hr:=HR.out
  simp only at hr
  obtain ⟨E,hE⟩ : ∃ E,checkP l=E:=⟨_,rfl⟩
  rw [hE] at hr
  have hrd:RdG KPr DPr w1 q ls.length d ls:=by
   obtain ⟨q',d',e,h⟩:=hrow.rd (D:=DPr) rfl (fun _ h=>h.rd)
   simp at e
   obtain ⟨rfl,rfl⟩:=e
   exact h
  have HC2:=hidden (checkAll_any _ _ _ ls w1 hrd E (by rw [hl];exact hE))
  have HRW:=hidden hrow
  have HR2:=hidden hr
  have HLS:=hidden hl
  clear hrow hrd hb1 HC hr HR hE hl
  go_wp2_with fail
  go_at_call 114
  (with_reducible refine (HC2.out).mono ?_)
  rintro e w2 ⟨rfl,hb2⟩
  have HB2:=hidden hb2
  have HB3:=hidden (HB1.out.trans (hb2.mono HB1.out.size))
  clear hb2
  by_cases hz:E=0
  ·subst hz
   have hr:=HR2.out
   rw [if_neg (by simp)] at hr
   have HR3:=hidden hr
   clear hr HR2
   go_wp2
   go_ret2
   rw [←HR3.out]
   exact ⟨_,ls,rfl,HLS.out,HRW.out.below HB2.out,HB3.out⟩
  ·have hz':(E != 0)=true:=by simpa using hz
   have hr:=HR2.out
   rw [if_pos hz] at hr
   have HR3:=hidden hr
   clear hr HR2
   go_wp2
   go_ret2
   exact parsed_fail _ _ _ _ HR3.out.symm HB3.out
end Go.Proofs.YtgpigjoonhghhaaGreat

namespace Go.Proofs.YtgpigjoonhghhaaGreat
open Go.RowKit
set_option linter.unusedVariables false
theorem encPs_rng : ∀ (l:List Pr),(∀ p∈l,∀ z∈p.s,0≤z∧z≤255)→∀ z∈encPs l,0≤z∧z≤255
 | [],_=>by intro z hz;simp [encPs] at hz
 | p :: l,h=>by
  rw [encPs,encP_sec]
  exact rng_append (secE_rng _ _ (by split<;>omega) (inP_rng p (h p (by simp)))) (encPs_rng l (fun q hq=>h q (by simp [hq])))
theorem buildP_rng (l:List Pr) (h : ∀ p∈l,∀ z∈p.s,0≤z∧z≤255) {L:List Int} {E:Int} (hb:buildP l=(L,E)) : ∀ z∈L,0≤z∧z≤255:=by
 unfold buildP at hb
 split at hb
 ·simp at hb
  obtain ⟨rfl,_⟩:=hb
  intro z hz
  cases hz
 ·simp at hb
  obtain ⟨rfl,_⟩:=hb
  exact encPs_rng l h
theorem RdG.rng {w:World} {p:Option Addr} {n c:Nat} {ls:List PrP} (h:RdG KPr DPr w p n c ls) : ∀ q∈ls.map PrP.pr,∀ z∈q.s,0≤z∧z≤255:=by
 intro q hq
 obtain ⟨x,hx,rfl⟩:=List.mem_map.1 hq
 exact (h.ok x hx).s.rng
def BuiltB (w:World) (L:List Int) (E:Int) (e:Ending) (w':World):Prop:=∃ p c,e=.returned (.tuple #[.slice p L.length c,.int .i64 E])∧Byt w' p L.length c L∧Below w.heap.size w w'
theorem errTrs_zero : ∀ (l seen:List Tr),(∀ x∈l,OkT x)→(seen++l).Nodup→errTrs seen l=0
 | [],_,_,_=>rfl
 | x :: l,seen,h,hn=>by
  have hx:=h x (by simp)
  have h1:=hx.t
  have h2:=hx.i
  have h3:=hx.k
  have hns:x ∉ seen:=by
   intro hm
   rw [List.nodup_append] at hn
   exact hn.2.2 x hm x (by simp) rfl
  rw [errTrs,if_neg (by omega),if_neg hns]
  exact errTrs_zero l (seen++[x]) (fun y hy=>h y (by simp [hy])) (by simpa using hn)
theorem drawn_err {pr n:Int} {x:PrP} (h:DrawnP pr n x) (hp:pr=1∨pr=2∨pr=3):errPr x.pr n=0:=by
 have h1:=h.n
 have h2:=h.p
 have h3:=h.s
 have h4:=h.ts
 have h5:=h4.some_
 have h6:=h4.few
 have h7:=errTrs_zero x.ts [] h4.ok (by simpa using h4.nodup)
 unfold errPr PrP.pr
 simp only
 rw [if_neg (by omega),if_neg (by omega),if_neg (by split at h3<;>omega),if_neg (by omega),if_neg (by omega),h7]
theorem drawn_errs (pr:Int) (hp:pr=1∨pr=2∨pr=3) : ∀ (ls:List PrP) (n:Int),(∀ j (h:j<ls.length),DrawnP pr (n+j) ls[j])→errPrs n (ls.map PrP.pr)=0
 | [],_,_=>rfl
 | x :: ls,n,h=>by
  have h0:=drawn_err (h 0 (by simp)) hp
  simp only [List.getElem_cons_zero] at h0
  rw [show n+((0:Nat):Int)=n by omega] at h0
  rw [List.map_cons,errPrs,if_neg (by omega)]
  refine drawn_errs pr hp ls (n+1) (fun j hj=>?_)
  have:=h (j+1) (by simpa using hj)
  simp only [List.getElem_cons_succ] at this
  rw [show n+1+(j:Int)=n+((j+1:Nat):Int) by omega]
  exact this
theorem DrawnL.check {pr:Int} {ls:List PrP} (h:DrawnL pr ls) (hp:pr=1∨pr=2∨pr=3) (h1:1≤ls.length) (h2:ls.length≤8):checkP (ls.map PrP.pr)=0:=by
 unfold checkP
 rw [List.length_map,if_neg (by omega),if_neg (by omega)]
 refine drawn_errs pr hp ls 1 (fun j hj=>?_)
 rw [show (1:Int)+j=(j:Int)+1 by omega]
 exact h j hj
theorem encPs_le : ∀ (l:List Pr),(∀ p∈l,OkP p)→(encPs l).length≤l.length*304
 | [],_=>by simp [encPs]
 | p :: l,h=>by
  have h1:=encP_len (if l.length=0 then 0 else 2) p
  have h2:=lenP_le (h p (by simp))
  have h3:=encPs_le l (fun q hq=>h q (by simp [hq]))
  rw [encPs,List.length_append,List.length_cons]
  omega
def demo (w:World):PrP:=⟨1,3,some ⟨w.heap.size,0,none⟩,4,4,[1,2,3,4],some ⟨w.heap.size+1,0,none⟩,1,1,[⟨1,28,0⟩]⟩
def demoPr:List Pr:=[⟨1,3,[1,2,3,4],[⟨1,28,0⟩]⟩]
end Go.Proofs.YtgpigjoonhghhaaGreat

namespace Go.Proofs.YtgpigjoonhghhaaGreat
open Go.RowKit
set_option linter.unusedVariables false
set_option maxHeartbeats 800000 in
theorem rcheckAll_any (p:Option Addr) (n c:Nat) (ls:List PrP) (w:World) (h:RdG KPr DPr w p n c ls) (E:Int) (hE:checkP (ls.map PrP.pr)=E) :
  Calls Tryz.prog 57 #[.slice p n c] w (ErrNew w E):=by
 have hn:=h.le
 have HT:=hidden h
 have HTL:=hidden h.len
 unfold checkP at hE
 rw [List.length_map,h.len] at hE
 clear h
 by_cases h0:n=0
 ·rw [if_pos h0] at hE
  subst h0
  go_enter Tryz.func57,Tryz.ntmps57
  go_wp2
  go_ret
  subst hE
  exact ⟨rfl,Below.refl _ _⟩
 rw [if_neg h0] at hE
 have h0':((n:Int) == 0)=false:=by simp;omega
 by_cases h8:8<n
 ·rw [if_pos h8] at hE
  go_enter Tryz.func57,Tryz.ntmps57
  go_wp2
  go_ret
  subst hE
  exact ⟨rfl,Below.refl _ _⟩
 rw [if_neg h8] at hE
 have HE:=hidden hE
 clear hE
 go_enter Tryz.func57,Tryz.ntmps57
 go_wp2_with fail
 go_loopw [3] (fun i wr=>∃ j:Nat,j≤n∧i=.int .i64 j∧errPrs ((j:Int)+1) ((ls.map PrP.pr).drop j)=E∧Below w.heap.size w wr) (fun i _=>n - (intOf i).toNat)
 case atStart=>exact ⟨0,by omega,rfl,by simpa using HE.out,Below.refl _ _⟩
 case round =>
  obtain ⟨j,hj,rfl,herr,hbel⟩:=hrel
  have HBL:=hidden hbel
  by_cases hlt:¬ j<n
  ·obtain rfl:j=n:=by omega
   rw [List.drop_of_length_le (by rw [List.length_map,HTL.out];exact Nat.le_refl _),errPrs] at herr
   have HER:=hidden herr
   clear herr hbel
   go_wp2
   go_ret
   have hE:=HER.out
   subst hE
   exact ⟨rfl,HBL.out⟩
  replace hlt:j<n:=by omega
  have hlt':(j:Int)<n:=by omega
  have htj:=HT.out.below hbel
  obtain ⟨g,rfl,hc,hok⟩:=htj.cell j (by rw [HTL.out];exact hlt)
  obtain ⟨y,hy⟩ : ∃ y,ls[j]'(by rw [HTL.out];exact hlt)=y:=⟨_,rfl⟩
  rw [hy] at hc hok
  obtain ⟨E1,hE1⟩ : ∃ E1,errPr y.pr ((j:Int)+1)=E1:=⟨_,rfl⟩
  have hst:=errPrs_stepP ls j (by rw [HTL.out];exact hlt) y hy E E1 herr hE1
  have c0:=hc 0 _ rfl
  have c1:=hc 1 _ rfl
  have c2:=hc 2 _ rfl
  have c3:=hc 3 _ rfl
  simp only [KPr,Nat.add_zero] at c0 c1 c2 c3
  have HC:=hidden (one_any y ((j:Int)+1) wr hok)
  rw [hE1] at HC
  have HB1:=HBL
  have HST:=hidden hst
  have hj8:(j:Int)+1≤9:=by omega
  clear hc hok hst hE1 hy htj herr hbel
  go_wp2_with fail
  go_at_call 74
  (with_reducible refine (HC.out).mono ?_)
  rintro e w1 ⟨rfl,hb1⟩
  have HB2:=hidden (HB1.out.trans (hb1.mono HB1.out.size))
  clear hb1 c0 c1 c2 c3
  by_cases hz:E1=0
  ·subst hz
   have hst:=HST.out
   rw [if_neg (by simp)] at hst
   have HS:=hidden hst
   clear hst HST
   go_wp2
   go_roundw
   case rel=>exact ⟨j+1,by omega,by go_num,HS.out.symm,HB2.out⟩
   case measure=>simp [intOf];omega
  ·have hz':(E1 != 0)=true:=by simpa using hz
   have hst:=HST.out
   rw [if_pos hz] at hst
   have HS:=hidden hst
   clear hst HST hz
   go_wp2
   go_ret
   have hE:=HS.out
   subst hE
   exact ⟨rfl,HB2.out⟩
end Go.Proofs.YtgpigjoonhghhaaGreat

namespace Go.Proofs.YtgpigjoonhghhaaGreat
open Go.RowKit
set_option linter.unusedVariables false
structure Ntf where
 np:Int
 s:Sv
 nt:Int
 d:Sv
def KNt:KindR Ntf where
 e:=43
 k:=4
 cs x:=[.int .i64 x.np,.slice x.s.p x.s.n x.s.c,.int .i64 x.nt,.slice x.d.p x.d.n x.d.c]
 len _:=rfl
 one x u hu:=by
  simp at hu
  rcases hu with rfl | rfl | rfl | rfl<;>rfl
 pos:=by decide
def NNt:NestR Ntf where
 ts:=[]
 ok _ _ _:=True
 keep _ _ _:=trivial
 mono _ _:=trivial
theorem Tryz.infoNt:(Tryz.prog.info? 43).map (fun i=>(i.zero,i.size,i.bytes))=some (some (.agg #[.int .i64 0,.slice none 0 0,.int .i64 0,.slice none 0 0]),4,64):=by kernel_rfl
theorem knownNt:KnownR Tryz.prog KNt 143 64:=by
 refine ⟨Tryz.underlying143,?_⟩
 obtain ⟨i0,hi,hz0,hz1,hz2⟩:=info_parts Tryz.infoNt
 exact ⟨i0,_,hi,hz0,hz1,hz2,rfl⟩
theorem srcNt (w:World) (x:Ntf) (T:TypeId):SrcG KNt (w.alloc (.cells #[.int .i64 x.np,.slice x.s.p x.s.n x.s.c,.int .i64 x.nt,.slice x.d.p x.d.n x.d.c] T)) (some ⟨w.heap.size,0,none⟩) 1 [x]:=SrcG.new KNt w [x] T
def isNote (kind:Int) (x:Pv):Bool:=x.t == 41 && x.nt == kind
set_option maxHeartbeats 6400000 in
set_option maxRecDepth 100000 in
theorem notes_any (i r nx x f m:Int) (p:Option Addr) (n c:Nat) (l:List Pv) (kind:Int) (w:World) (h:RdG KPv DPv w p n c l) (hn:n≤100000) :
  Calls Tryz.prog 72 #[.agg #[.int .u64 i,.int .u64 r,.int .i64 nx,.int .i64 x,.int .i64 f,.int .u32 m,.slice p n c],.int .i64 kind] w fun e w'=>(∃ (p':Option Addr) (n' c':Nat),e=.returned (.slice p' n' c')∧decide (0<n')=l.any (isNote kind)∧n'≤n)∧Below w.heap.size w w':=by
 have HBX:=hidden ((Below.refl w.heap.size w).alloc (Nat.le_refl _) (.cells #[.int .u64 i,.int .u64 r,.int .i64 nx,.int .i64 x,.int .i64 f,.int .u32 m,.slice p n c] 32))
 have H:=hidden h
 obtain ⟨R,hR⟩ : ∃ R,l.any (isNote kind)=R:=⟨_,rfl⟩
 have HR:Is (decide (0<([]:List Ntf).length) || (l.drop 0).any (isNote kind)) R:=⟨by simpa using hR⟩
 rw [hR]
 clear hR h
 go_enter Tryz.func72,Tryz.ntmps72
 go_wp2_with fail
 go_loopw [5,11] (fun v i wr=>∃ (j:Nat) (L:List Ntf),j≤n∧i=.int .i64 j∧RowG KNt NNt wr w.heap.size v L∧L.length≤j∧Is (decide (0<L.length) || (l.drop j).any (isNote kind)) R∧Below w.heap.size w wr) (fun _ i _=>n - (intOf i).toNat)
 case atStart=>exact ⟨0,[],by omega,rfl,RowG.nil _ _ _ _,by simp,HR,HBX.out⟩
 case round =>
  obtain ⟨j,L,hj,rfl,hrow,hlj,hrel,hb⟩:=hrel
  have HB:=hidden hb
  have HRW:=hidden hrow
  clear hb hrow
  by_cases hlt:j<n
  ·have hlt':(j:Int)<n:=by omega
   obtain ⟨g,y,rfl,hx,hdr,hok,hc⟩:=(H.out.below HB.out).drop_cons hlt
   have c0:=hc 0 _ rfl
   have c1:=hc 1 _ rfl
   have c2:=hc 2 _ rfl
   have c3:=hc 3 _ rfl
   have c4:=hc 4 _ rfl
   have c5:=hc 5 _ rfl
   have c6:=hc 6 _ rfl
   have c7:=hc 7 _ rfl
   have c8:=hc 8 _ rfl
   have c9:=hc 9 _ rfl
   have c10:=hc 10 _ rfl
   have c11:=hc 11 _ rfl
   have c12:=hc 12 _ rfl
   have c13:=hc 13 _ rfl
   have c14:=hc 14 _ rfl
   have c15:=hc 15 _ rfl
   simp only [Nat.add_zero] at c0
   have hf:=hrel.eq
   rw [hdr,List.any_cons] at hf
   have HBP:=hidden ((Below.refl wr.heap.size wr).alloc (Nat.le_refl _) (.cells #[.int .i64 y.t,.slice y.pr.p y.pr.n y.pr.c,.int .i64 y.eg,.slice y.ed.p y.ed.n y.ed.c,.int .i64 y.ik,.slice y.id.p y.id.n y.id.c,.int .i64 y.am,.slice y.ad.p y.ad.n y.ad.c,.int .i64 y.np,.slice y.ns.p y.ns.n y.ns.c,.int .i64 y.nt,.slice y.nd.p y.nd.n y.nd.c,.int .i64 y.dp,.slice y.ds.p y.ds.n y.ds.c,.slice y.se.p y.se.n y.se.c,.slice y.da.p y.da.n y.da.c] 49))
   have HRP:=hidden (HRW.out.below HBP.out)
   have HOK:=hidden hok
   clear hok hrel hdr hx hc
   have hskip:isNote kind y=false→Is (decide (0<L.length) || (l.drop (j+1)).any (isNote kind)) R:=fun e=>⟨by rw [e,Bool.false_or] at hf;exact hf⟩
   have hHIT:isNote kind y=true→Is (true) R:=fun e=>⟨by rw [e] at hf;simpa using hf⟩
   have HSK:=hidden hskip
   have HHT:=hidden hHIT
   clear hf hskip hHIT
   by_cases h1:y.t=41
   ·by_cases h2:y.nt=kind
    ·have HT:=HHT.out (by simp [isNote,h1,h2])
     obtain ⟨xs,hns⟩:=HOK.out.ns h1
     obtain ⟨ys,hnd⟩:=HOK.out.nd h1
     have hsn:=HOK.out.sn h1
     have hdn:=HOK.out.dn h1
     have HCN:=hidden (fun W (hW:Below wr.heap.size wr W)=>copiedNote_any y.np y.nt y.ns.p y.nd.p y.ns.n y.ns.c y.nd.n y.nd.c xs ys W (hns.below hW) (hnd.below hW) hsn hdn)
     clear hns hnd hsn hdn HOK
     have q1:(y.t == 41)=true:=by simp [h1]
     have q2:(y.nt == kind)=true:=by simp [h2]
     clear HSK HHT h1 h2
     go_wp2_with (first
      | (go_at_call 92;(with_reducible refine (HCN.out _ HBP.out).mono ?_);rintro _ w1 ⟨⟨p1,p2,e1,e2,rfl⟩,hb1⟩;have HB1:=hidden (HB.out.trans ((HBP.out.trans (hb1.mono HBP.out.size)).mono HB.out.size));have HR1:=hidden (HRP.out.below hb1);clear hb1)
      | (at_builtin;go_loud (refine wpList_append_g knownNt (by simp [NNt]) _ rfl _ _ rfl w.heap.size _ L rfl (HR1.out.alloc _) _ 1 1 [⟨y.np,⟨p1,y.ns.n,e1⟩,y.nt,⟨p2,y.nd.n,e2⟩⟩] rfl (srcNt w1 ⟨y.np,⟨p1,y.ns.n,e1⟩,y.nt,⟨p2,y.nd.n,e2⟩⟩ _) (fun x hx=>trivial) ?b1 ?b2 ?b3 ?_))
      | fail)
     case b1=>unfold maxLen;omega
     case b2=>omega
     case b3=>simp;have:=HB1.out.size;omega
     intro v6 w6 hrow6 hg6
     have HR6:=hidden hrow6
     have HB6:=hidden ((HB1.out.alloc HB1.out.size (.cells #[.int .i64 y.np,.slice p1 y.ns.n e1,.int .i64 y.nt,.slice p2 y.nd.n e2] 43)).grown hg6 (Nat.le_trans HB1.out.size (by simp)) (fun k hk=>(HR1.out.lt k hk).1))
     clear hrow6 hg6
     go_wp2
     go_roundw
     case rel=>exact ⟨j+1,_,by omega,by go_num,HR6.out,by simp;omega,⟨by rw [←HT.eq];simp⟩,HB6.out⟩
     case measure=>simp [intOf];omega
    ·have HT:=HSK.out (by simp [isNote,h2])
     have q1:(y.t == 41)=true:=by simp [h1]
     have q2:(y.nt == kind)=false:=by simp [h2]
     clear HSK HHT h1 h2
     go_wp2
     go_roundw
     case rel=>exact ⟨j+1,L,by omega,by go_num,HRP.out,by omega,HT,HB.out.trans (HBP.out.mono HB.out.size)⟩
     case measure=>simp [intOf];omega
   ·have HT:=HSK.out (by simp [isNote,h1])
    have q1:(y.t == 41)=false:=by simp [h1]
    clear HSK HHT h1
    go_wp2
    go_roundw
    case rel=>exact ⟨j+1,L,by omega,by go_num,HRP.out,by omega,HT,HB.out.trans (HBP.out.mono HB.out.size)⟩
    case measure=>simp [intOf];omega
  ·have hlt':¬ (j:Int)<n:=by omega
   have hd:l.drop j=[]:=List.drop_eq_nil_of_le (by rw [H.out.len];omega)
   have hf:=hrel.eq
   rw [hd,List.any_nil,Bool.or_false] at hf
   obtain ⟨q,d,rfl⟩:=HRW.out.form rfl
   have HF:=hidden hf
   clear hf hd hrel
   go_wp2
   go_ret
   exact ⟨⟨q,L.length,⟨d,rfl⟩,HF.out,Nat.le_trans hlj hj⟩,HB.out⟩
end Go.Proofs.YtgpigjoonhghhaaGreat

namespace Go.Proofs.YtgpigjoonhghhaaGreat
open Go.RowKit
set_option linter.unusedVariables false
structure RawIn (w:World) (g:Nat) (k:Int) (c:Bool) (p:Option Addr) (n m:Nat):Prop where
 c0:w.cell? ⟨g,0,none⟩=some (.int .i64 k)
 c1:w.cell? ⟨g,1,none⟩=some (.bool c)
 c2:w.cell? ⟨g,2,none⟩=some (.slice p n m)
structure RawBox (w:World) (g:Nat):Prop where
 ex : ∃ k c p n m,w.cell? ⟨g,0,none⟩=some (.int .i64 k)∧w.cell? ⟨g,1,none⟩=some (.bool c)∧w.cell? ⟨g,2,none⟩=some (.slice p n m)
 fr : ∀ j,w.frozen? ⟨g,j,none⟩=false
theorem RawBox.grown {w w':World} {g:Nat} {row:Option Nat} (h:RawBox w g) (hg:w.grownBy w' row) (hne:some g≠row):RawBox w' g:=by
 obtain ⟨⟨k,c,p,n,m,h0,h1,h2⟩,hf⟩:=h
 exact ⟨⟨k,c,p,n,m,hg.cell h0 hne,hg.cell h1 hne,hg.cell h2 hne⟩,fun j=>(World.frozen?_of_block (a:=⟨g,j,none⟩) (hg.block g (World.block_lt_of_cell? w _ h0) hne)).trans (hf j)⟩
theorem RawBox.below {w w':World} {g:Nat} (h:RawBox w g) (hb:Below w.heap.size w w'):RawBox w' g:=h.grown (row:=none) ⟨hb.os,hb.tape,hb.output,hb.size,fun i hi _=>hb.block i hi⟩ (by simp)
theorem RawBox.new (w:World) (k:Int) (c:Bool) (p:Option Addr) (n m:Nat) (T:TypeId):RawBox (w.alloc (.cells #[.int .i64 k,.bool c,.slice p n m] T)) w.heap.size :=
 ⟨⟨k,c,p,n,m,by go_simp,by go_simp,by go_simp⟩,fun j=>by go_simp⟩
theorem load_raw {w:World} {g:Nat} {k:Int} {c:Bool} {p:Option Addr} {n m:Nat} (h:RawIn w g k c p n m):(loadVar 51 ⟨g,0,none⟩).run Tryz.prog w=.ok (.agg #[.int .i64 k,.bool c,.slice p n m]) w:=by
 obtain ⟨c0,c1,c2⟩:=h
 simp [loadVar,go_sem,c0,c1,c2,Result.andThen]
theorem ret_raw2 {fn:Func} {R:Ending→World→Prop} {a:Act} {w:World} {b u:Nat} {g:Nat} {k:Int} {c:Bool} {p:Option Addr} {n m:Nat} {v:Value} (h:fn.results=#[.cell b 51,.tmp u]) (hp:a.tmps.getD b undef=.pointer (some ⟨g,0,none⟩)) (hu:a.tmps.getD u undef=v) (hd:a.defers=[])
  (hh:RawIn w g k c p n m) (hR:R (.returned (.tuple #[.agg #[.int .i64 k,.bool c,.slice p n m],v])) w):bodyPost Tryz.prog fn R .ret a w:=by
 refine bodyPost_ret (v:=.tuple #[.agg #[.int .i64 k,.bool c,.slice p n m],v]) ?_ hd hR
 rw [results_cell_tmp h]
 simp only [hp]
 simp [Result.andThen,hu,asAddr,load_raw hh]
structure Rdr (w:World) (R:Nat) (p:Option Addr) (n c:Nat) (at_ next inside err:Int):Prop where
 c0:w.cell? ⟨R,0,none⟩=some (.slice p n c)
 c1:w.cell? ⟨R,1,none⟩=some (.int .i64 at_)
 c2:w.cell? ⟨R,2,none⟩=some (.int .i64 next)
 c3:w.cell? ⟨R,3,none⟩=some (.int .i64 inside)
 c4:w.cell? ⟨R,4,none⟩=some (.int .i64 err)
 fr : ∀ j,w.frozen? ⟨R,j,none⟩=false
theorem Rdr.lt {w:World} {R:Nat} {p:Option Addr} {n c:Nat} {at_ next inside err:Int} (h:Rdr w R p n c at_ next inside err):R<w.heap.size:=World.block_lt_of_cell? w _ h.c0
theorem Rdr.grown {w w':World} {R:Nat} {p:Option Addr} {n c:Nat} {at_ next inside err:Int} {row:Option Nat} (h:Rdr w R p n c at_ next inside err) (hg:w.grownBy w' row) (hne:some R≠row):Rdr w' R p n c at_ next inside err :=
 ⟨hg.cell h.c0 hne,hg.cell h.c1 hne,hg.cell h.c2 hne,hg.cell h.c3 hne,hg.cell h.c4 hne,fun j=>(World.frozen?_of_block (a:=⟨R,j,none⟩) (hg.block R h.lt hne)).trans (h.fr j)⟩
theorem Rdr.below {w w':World} {R:Nat} {p:Option Addr} {n c:Nat} {at_ next inside err:Int} {B:Nat} (h:Rdr w R p n c at_ next inside err) (hb:Below B w w') (hR:R<B):Rdr w' R p n c at_ next inside err :=
 have hc : ∀ a:Addr,a.block=R→w'.cell? a=w.cell? a:=fun a ha=>hb.cell (by rw [ha];exact hR)
 ⟨(hc _ rfl).trans h.c0,(hc _ rfl).trans h.c1,(hc _ rfl).trans h.c2,(hc _ rfl).trans h.c3,(hc _ rfl).trans h.c4,fun j=>(World.frozen?_of_block (a:=⟨R,j,none⟩) (hb.block R hR)).trans (h.fr j)⟩
theorem four (xs:List Int) (hr : ∀ x∈xs,0≤x∧x≤255) (a:Nat) (h:a+4≤xs.length) :
  ∃ hd:Int,val ((xs.drop a).take 4)=hd∧0≤hd∧hd<4294967296∧hd / 16777216=xs.getD a 0∧hd / 65536=xs.getD a 0*256+xs.getD (a+1) 0∧hd % 65536=lenC (xs.drop a):=by
 have e:(xs.drop a).take 4=[xs.getD a 0,xs.getD (a+1) 0,xs.getD (a+2) 0,xs.getD (a+3) 0]:=by
  rw [List.drop_eq_getElem_cons (by omega),List.take_succ_cons,List.drop_eq_getElem_cons (by omega),List.take_succ_cons,List.drop_eq_getElem_cons (by omega),List.take_succ_cons,List.drop_eq_getElem_cons (by omega),List.take_succ_cons,List.take_zero]
  simp [List.getD_eq_getElem?_getD,List.getElem?_eq_getElem (show a<xs.length by omega),List.getElem?_eq_getElem (show a+1<xs.length by omega),List.getElem?_eq_getElem (show a+2<xs.length by omega),List.getElem?_eq_getElem (show a+3<xs.length by omega)]
 have r0:=rng_getD hr a
 have r1:=rng_getD hr (a+1)
 have r2:=rng_getD hr (a+2)
 have r3:=rng_getD hr (a+3)
 have hl:lenC (xs.drop a)=xs.getD (a+2) 0*256+xs.getD (a+3) 0:=by rw [lenC,getD_dropC,getD_dropC]
 have hv:val [xs.getD a 0,xs.getD (a+1) 0,xs.getD (a+2) 0,xs.getD (a+3) 0]=((xs.getD a 0*256+xs.getD (a+1) 0)*256+xs.getD (a+2) 0)*256+xs.getD (a+3) 0:=by simp [val]
 refine ⟨_,rfl,?_⟩
 rw [e,hv,hl]
 generalize xs.getD a 0=x0 at *
 generalize xs.getD (a+1) 0=x1 at *
 generalize xs.getD (a+2) 0=x2 at *
 generalize xs.getD (a+3) 0=x3 at *
 refine ⟨by omega,by omega,by omega,by omega,by omega⟩
theorem bit7 (x y:Int) (hx:0≤x∧x≤255) (hy:0≤y∧y≤255):(bits .and .u64 (x*256+y) 128 != 0)=decide (128≤y):=by
 obtain ⟨a,rfl⟩:=Int.eq_ofNat_of_zero_le hx.1
 obtain ⟨b,rfl⟩:=Int.eq_ofNat_of_zero_le hy.1
 have h:=bits_and_u64_nat (a*256+b) 128 (by omega) (by omega)
 have e:(((a*256+b:Nat):Int))=(a:Int)*256+(b:Int):=by simp
 rw [e] at h
 rw [show ((128:Nat):Int)=128 from rfl] at h
 have h1:(a*256+b) &&& 128=b &&& 128:=by
  have h2:((a*256+b) &&& 128) % 2 ^ 8=((a*256+b) % 2 ^ 8) &&& (128 % 2 ^ 8):=Nat.and_mod_two_pow
  have h3:(a*256+b) &&& 128≤128:=Nat.and_le_right
  have h4:(a*256+b) % 2 ^ 8=b:=by omega
  rw [h4,show (128 % 2 ^ 8:Nat)=128 from rfl] at h2
  omega
 rw [h,h1]
 have : ∀ j:Fin 256,((((j.val &&& 128:Nat)):Int) != 0)=decide (128≤((j.val:Nat):Int)):=by decide +kernel
 exact this ⟨b,by omega⟩
theorem grown_set_R {a b:World} {R:Nat} (h:a.grownBy b (some R)) (j:Nat) (v:Value):a.grownBy (b.setCell ⟨R,j,none⟩ v) (some R):=grown_trans h (grown_set b R j v)
theorem Bod.set_low {w:World} {base:Nat} {p:Option Addr} {n c:Nat} {xs:List Int} (h:Bod w base p n c xs) (g j:Nat) (v:Value) (hg:g<base):Bod (w.setCell ⟨g,j,none⟩ v) base p n c xs:=h.grown (grown_set w g j v) (OffB.low hg)
theorem below_drewN_ {B:Nat} {a w:World} (h:Below B a w) (n:Nat):Below B a (w.drewN n):=⟨h.os,h.tape,h.output,h.size,h.block⟩
def PayFail (w:World) (E:Int) (e:Ending) (w':World):Prop:=e=.returned (.tuple #[.agg #[.int .i64 0,.bool false,.slice none 0 0],.int .i64 E])∧Below w.heap.size w w'
def PayOk (w:World) (R:Nat) (p:Option Addr) (n c:Nat) (xs:List Int) (at_ m:Nat) (L kd inside err:Int) (e:Ending) (w':World):Prop :=
 ∃ q d,e=.returned (.tuple #[.agg #[.int .i64 kd,.bool (decide (128≤xs.getD (at_+1) 0)),.slice q m d],.int .i64 0])∧Bod w' w.heap.size q m d ((xs.drop (at_+4)).take m) ∧
  Rdr w' R p n c ((at_:Int)+L) (if lastK kd then 0 else xs.getD at_ 0) (if lastK kd then xs.getD at_ 0 else inside) err∧w.grownBy w' (some R)
theorem num_short (p:Option Addr) (n c:Nat) (xs:List Int) (w:World) (h:Byt w p n c xs) (a:Nat) (ha:a≤n) (hs:n - a<4) :
  Calls Tryz.prog 79 #[.slice p n c,.int .i64 a,.int .i64 4] w fun e w'=>e=.returned (.tuple #[.int .u64 0,.bool false])∧w=w':=by
 have hl:=h.len
 have:=number_any p n c xs w h a 4 (by have:=h.le;omega) (by omega)
 rw [numR,if_neg (by omega)] at this
 exact this
theorem num_four (p:Option Addr) (n c:Nat) (xs:List Int) (w:World) (h:Byt w p n c xs) (a:Nat) (hin:a+4≤n) (hd:Int) (hv:val ((xs.drop a).take 4)=hd) :
  Calls Tryz.prog 79 #[.slice p n c,.int .i64 a,.int .i64 4] w fun e w'=>e=.returned (.tuple #[.int .u64 hd,.bool true])∧w=w':=by
 subst hv
 exact number_yes p n c xs w h a 4 (by omega) (by omega) hin
theorem slice_bad (p:Option Addr) (n c:Nat) (xs:List Int) (w:World) (h:Byt w p n c xs) (hb:n≤140737488355328) (a:Nat) (ha:a+4≤n) (L:Int) (hL:0≤L∧L≤65535) (hbad:L<4∨(n:Int) - a<L) :
  Calls Tryz.prog 80 #[.slice p n c,.int .i64 ((a:Int)+4),.int .i64 (L - 4)] w fun e w'=>∃ q i d,e=.returned (.tuple #[.slice q i d,.bool false])∧Below w.heap.size w w':=by
 have hl:=h.len
 refine (slice_bod p n c xs w h hb (a+4) (L - 4) (by have:=h.le;omega) (by omega)).mono fun e w' hh=>?_
 rw [pieceR,if_neg (by omega)] at hh
 obtain ⟨q,i,d,he,_,hb⟩:=hh
 exact ⟨q,i,d,he,hb⟩
theorem slice_good (p:Option Addr) (n c:Nat) (xs:List Int) (w:World) (h:Byt w p n c xs) (hb:n≤140737488355328) (a m:Nat) (ha:a+4+m≤n) (L:Int) (hL:L - 4=(m:Int)) :
  Calls Tryz.prog 80 #[.slice p n c,.int .i64 ((a:Int)+4),.int .i64 (L - 4)] w fun e w'=>∃ q d,e=.returned (.tuple #[.slice q m d,.bool true])∧Bod w' w.heap.size q m d ((xs.drop (a+4)).take m)∧Below w.heap.size w w':=by
 have hl:=h.len
 refine (slice_bod p n c xs w h hb (a+4) (L - 4) (by have:=h.le;omega) (by omega)).mono fun e w' hh=>?_
 have hp:pieceR xs ((a:Int)+4) (L - 4)=((xs.drop (a+4)).take m,true):=by
  rw [pieceR,if_pos (by omega),hL]
  simp
  rfl
 rw [hp] at hh
 obtain ⟨q,n',d,he,hbod,hb'⟩:=hh
 obtain rfl:m=n':=by
  have:=hbod.byt.len
  simp at this
  omega
 exact ⟨q,d,he,hbod,hb'⟩
set_option maxHeartbeats 1600000 in
theorem pay_short (w:World) (R:Nat) (p:Option Addr) (n c:Nat) (xs:List Int) (h:Byt w p n c xs) (hb:n≤140737488351232) (at_:Nat) (kd inside err:Int) (hr:Rdr w R p n c at_ kd inside err) (ha:at_≤n) (hs:n - at_<4) :
  Calls Tryz.prog 65 #[.pointer (some ⟨R,0,none⟩)] w (PayFail w 1):=by
 have hlt:=hr.lt
 have HN:=hidden (fun a=>(num_short p n c xs ((w.alloc (.cells #[.int .i64 0,.bool false,.slice none 0 0] 51)).drewN a) ((h.alloc _).keep (fun _ _ h=>h)) at_ ha hs).mono (R':=fun e w'=>e=.returned (.tuple #[.int .u64 0,.bool false])∧w'=((w.alloc (.cells #[.int .i64 0,.bool false,.slice none 0 0] 51)).drewN a)) (fun e w' ⟨h1,h2⟩=>⟨h1,h2.symm⟩))
 obtain ⟨c0,c1,c2,c3,c4,fr⟩:=hr
 have hR:R≠w.heap.size:=by omega
 clear h
 go_enter Tryz.func65,Tryz.ntmps65
 go_wp2
 go_quiet ((go_at_call 79;(with_reducible exact Calls.quiet_of_same (HN.out _))))
 go_wp2
 refine ret_raw2 (g:=w.heap.size) (k:=0) (c:=false) (p:=none) (n:=0) (m:=0) rfl rfl rfl rfl ⟨by go_simp,by go_simp,by go_simp⟩ ?_
 exact ⟨rfl,by have:=Below.refl w.heap.size w;repeat' (first | with_reducible exact this | (with_reducible refine Below.alloc ?_ ?_ _) | (with_reducible refine Below.setCell ?_ ?_ _) | (with_reducible refine below_drewN_ ?_ _) | simp)⟩
set_option maxHeartbeats 1600000 in
theorem pay_wrong (w:World) (R:Nat) (p:Option Addr) (n c:Nat) (xs:List Int) (h:Byt w p n c xs) (hb:n≤140737488351232) (at_:Nat) (kd inside err:Int) (hr:Rdr w R p n c at_ kd inside err) (ha:at_+4≤n) (L:Int) (hL:lenC (xs.drop at_)=L) (hbad:L<4∨(n:Int) - at_<L) :
  Calls Tryz.prog 65 #[.pointer (some ⟨R,0,none⟩)] w (PayFail w 2):=by
 have hlt:=hr.lt
 have hl:=h.len
 have hlb:=lenC_bd (xs.drop at_) (rng_drop h.rng at_)
 rw [hL] at hlb
 obtain ⟨hd,hv,hd0,hd1,e0,e1,e2⟩:=four xs h.rng at_ (by omega)
 rw [hL] at e2
 have hx0:=rng_getD h.rng at_
 have hand:=and16 hd hd0 (by omega)
 rw [e2] at hand
 have HN:=hidden (fun a=>(num_four p n c xs ((w.alloc (.cells #[.int .i64 0,.bool false,.slice none 0 0] 51)).drewN a) ((h.alloc _).keep (fun _ _ h=>h)) at_ ha hd hv).mono (R':=fun e w'=>e=.returned (.tuple #[.int .u64 hd,.bool true])∧w'=((w.alloc (.cells #[.int .i64 0,.bool false,.slice none 0 0] 51)).drewN a)) (fun e w' ⟨h1,h2⟩=>⟨h1,h2.symm⟩))
 have hw4:IntKind.i64.wrap ((at_:Int)+4)=(at_:Int)+4:=wraps_i64 _ (by omega) (by omega)
 have hwl:IntKind.i64.wrap (L - 4)=L - 4:=by rw [IntKind.wrap_i64];omega
 have HS:=hidden (fun w (h:Byt w p n c xs)=>slice_bad p n c xs w h (by omega) at_ ha L hlb hbad)
 have HX:=hidden h
 have HR:=hidden hr
 obtain ⟨c0,c1,c2,c3,c4,fr⟩:=hr
 have hR:R≠w.heap.size:=by omega
 clear h hl hL hv e1 e2 hbad
 generalize xs.getD at_ 0=x0 at *
 go_enter Tryz.func65,Tryz.ntmps65
 go_wp2
 go_quiet ((go_at_call 79;(with_reducible exact Calls.quiet_of_same (HN.out _))))
 go_wp2
 obtain ⟨w1,hw1⟩ : ∃ v,v=(w.alloc (.cells #[.int .i64 0,.bool false,.slice none 0 0] 51)).drewN nq:=⟨_,rfl⟩
 rw [←hw1]
 have hb1:Below w.heap.size w w1:=by rw [hw1];exact below_drewN_ ((Below.refl _ w).alloc (Nat.le_refl _) _) _
 have hz1:RawBox w1 w.heap.size:=by rw [hw1];exact (RawBox.new w 0 false none 0 0 51).below (drew_below ⟨_,rfl⟩)
 have hr1:=HR.out.below hb1 hlt
 have hx1:=HX.out.below hb1
 have hxd:Byt w1.drew p n c xs:=hx1.keep (fun _ _ h=>h)
 have HXD:=hidden hxd
 have HB1:=hidden hb1
 have HZ1:=hidden hz1
 clear hw1 hb1 hz1 hx1 hxd c0 c1 c2 c3 c4 fr HX HN
 obtain ⟨c0,c1,c2,c3,c4,fr⟩:=hr1
 go_region_with (go_at_call 80;(with_reducible refine (HS.out _ HXD.out).mono ?_);rintro e w3 ⟨q,i,d,rfl,hb3⟩)
 all_goals
  have hb3':=HB1.out.drew.trans (hb3.mono (by have:=HB1.out.size;exact this))
  have hz3:=(HZ1.out.below (drew_below ⟨1,rfl⟩)).below hb3
  have HB3:=hidden hb3'
  obtain ⟨⟨k,cc,pp,nn,mm,z0,z1,z2⟩,zf⟩:=hz3
  clear hb3 hb3' c0 c1 c2 c3 c4 fr
  go_wp2
  refine ret_raw2 (g:=w.heap.size) (k:=0) (c:=false) (p:=none) (n:=0) (m:=0) rfl rfl rfl rfl ⟨by go_simp,by go_simp,by go_simp⟩ ?_
  exact ⟨rfl,by have:=HB3.out;repeat' (first | with_reducible exact this | (with_reducible refine Below.setCell ?_ ?_ _) | simp)⟩
set_option maxHeartbeats 3200000 in
theorem pay_ok (w:World) (R:Nat) (p:Option Addr) (n c:Nat) (xs:List Int) (h:Byt w p n c xs) (hb:n≤140737488351232) (at_:Nat) (kd inside err:Int) (hr:Rdr w R p n c at_ kd inside err) (L:Int) (hL:lenC (xs.drop at_)=L) (m:Nat) (hm:L - 4=(m:Int)) (ha:at_+4+m≤n) :
  Calls Tryz.prog 65 #[.pointer (some ⟨R,0,none⟩)] w (PayOk w R p n c xs at_ m L kd inside err):=by
 have hlt:=hr.lt
 have hl:=h.len
 have hlb:=lenC_bd (xs.drop at_) (rng_drop h.rng at_)
 rw [hL] at hlb
 obtain ⟨hd,hv,hd0,hd1,e0,e1,e2⟩:=four xs h.rng at_ (by omega)
 rw [hL] at e2
 have hx0:=rng_getD h.rng at_
 have hx1:=rng_getD h.rng (at_+1)
 have hand:=and16 hd hd0 (by omega)
 rw [e2] at hand
 have HN:=hidden (fun a=>(num_four p n c xs ((w.alloc (.cells #[.int .i64 0,.bool false,.slice none 0 0] 51)).drewN a) ((h.alloc _).keep (fun _ _ h=>h)) at_ (by omega) hd hv).mono (R':=fun e w'=>e=.returned (.tuple #[.int .u64 hd,.bool true])∧w'=((w.alloc (.cells #[.int .i64 0,.bool false,.slice none 0 0] 51)).drewN a)) (fun e w' ⟨h1,h2⟩=>⟨h1,h2.symm⟩))
 have hw4:IntKind.i64.wrap ((at_:Int)+4)=(at_:Int)+4:=wraps_i64 _ (by omega) (by omega)
 have hwl:IntKind.i64.wrap (L - 4)=L - 4:=by rw [IntKind.wrap_i64];omega
 have HS:=hidden (fun w (h:Byt w p n c xs)=>slice_good p n c xs w h (by omega) at_ m ha L hm)
 have HX:=hidden h
 have HR:=hidden hr
 have HP:=hidden (show ∀ (e:Ending) (w':World),(∃ q d,e=.returned (.tuple #[.agg #[.int .i64 kd,.bool (decide (128≤xs.getD (at_+1) 0)),.slice q m d],.int .i64 0])∧Bod w' w.heap.size q m d ((xs.drop (at_+4)).take m) ∧
  Rdr w' R p n c ((at_:Int)+L) (if lastK kd then 0 else xs.getD at_ 0) (if lastK kd then xs.getD at_ 0 else inside) err∧w.grownBy w' (some R))→PayOk w R p n c xs at_ m L kd inside err e w' from fun _ _ h=>h)
 have HW:=hidden (fun w=>wraps_any kd w)
 have hat:(at_:Int)+L≤140737488351232:=by omega
 obtain ⟨c0,c1,c2,c3,c4,fr⟩:=hr
 have hR:R≠w.heap.size:=by omega
 clear h hl hL hv e2 hm
 generalize xs.getD at_ 0=x0 at *
 generalize xs.getD (at_+1) 0=x1 at *
 have hbit:=bit7 x0 x1 hx0 hx1
 generalize hBX:(xs.drop (at_+4)).take m=bs at *
 clear hBX
 go_enter Tryz.func65,Tryz.ntmps65
 go_wp2
 go_quiet ((go_at_call 79;(with_reducible exact Calls.quiet_of_same (HN.out _))))
 go_wp2
 obtain ⟨w1,hw1⟩ : ∃ v,v=(w.alloc (.cells #[.int .i64 0,.bool false,.slice none 0 0] 51)).drewN nq:=⟨_,rfl⟩
 rw [←hw1]
 have hb1:Below w.heap.size w w1:=by rw [hw1];exact below_drewN_ ((Below.refl _ w).alloc (Nat.le_refl _) _) _
 have hz1:RawBox w1 w.heap.size:=by rw [hw1];exact (RawBox.new w 0 false none 0 0 51).below (drew_below ⟨_,rfl⟩)
 have hr1:=HR.out.below hb1 hlt
 have hx1:=HX.out.below hb1
 have hxd:Byt w1.drew p n c xs:=hx1.keep (fun _ _ h=>h)
 have HXD:=hidden hxd
 have HB1:=hidden hb1
 have HZ1:=hidden hz1
 have hg1:w.heap.size<w1.heap.size:=by
  obtain ⟨_,_,_,_,_,h,_⟩:=hz1.ex
  exact World.block_lt_of_cell? w1 _ h
 have HR1:=hidden hr1
 clear hw1 hb1 hz1 hx1 hxd c0 c1 c2 c3 c4 fr HX HN HR
 obtain ⟨c0,c1,c2,c3,c4,fr⟩:=hr1
 go_region_with (go_at_call 80;(with_reducible refine (HS.out _ HXD.out).mono ?_);rintro e w3 ⟨q,d,rfl,hbod,hb3⟩)
 all_goals
  have hs1:=HB1.out.size
  have hb3':=HB1.out.drew.trans (hb3.mono (by exact hs1))
  have hz3:=(HZ1.out.below (drew_below ⟨1,rfl⟩)).below hb3
  have hr3:=(HR1.out.below (drew_below (B:=R+1) ⟨1,rfl⟩) (by omega)).below hb3 HR1.out.lt
  have HB3:=hidden hb3'
  have HBO:=hidden (hbod.mono (show w.heap.size+1≤w1.drew.heap.size from hg1))
  have HR3:=hidden hr3
  obtain ⟨⟨k,cc,pp,nn,mm,z0,z1,z2⟩,zf⟩:=hz3
  have hg3:=World.block_lt_of_cell? w3 _ z0
  have hR3:=hr3.lt
  clear hb3 hb3' hbod c0 c1 c2 c3 c4 fr HR1 HZ1 HB1 HXD HS
  obtain ⟨c0,c1,c2,c3,c4,fr⟩:=hr3
  clear hw4 hwl
  have HG3:=hidden (grown_of_below HB3.out (some R))
  have hcasts:R<w.heap.size:=hlt
  rcases hlk:lastK kd with _ | _
  all_goals
   rw [hlk] at HW HP
   go_wp2_with (go_at_call 81;(with_reducible refine (HW.out _).mono ?_);rintro e w' ⟨rfl,rfl⟩)
   refine ret_raw2 (g:=w.heap.size) (k:=kd) (c:=decide (128≤x1)) (p:=q) (n:=m) (m:=d) rfl rfl rfl rfl ⟨by go_simp,by go_simp,by go_simp⟩ ?_
   refine HP.out _ _ ⟨q,d,rfl,Bod.mono (base:=w.heap.size+1) ?_ (by omega),⟨by go_simp,by go_simp,by first | (go_simp;done) | (go_simp;rw [World.cell?_setCell_same' _ _ _ (by go_simp;done)]),by go_simp,by go_simp,fun j=>by go_simp⟩,?_⟩
   ·repeat' (first | with_reducible exact HBO.out | (with_reducible refine Bod.alloc ?_ _) | (with_reducible refine Bod.set_low ?_ _ _ _ (by omega)))
   ·repeat' (first | with_reducible exact HG3.out | (with_reducible refine grown_alloc_new ?_ _) | (with_reducible refine grown_set_R ?_ _ _) | (with_reducible refine grown_set_new ?_ _ _ _ (Nat.le_refl _)))
end Go.Proofs.YtgpigjoonhghhaaGreat
