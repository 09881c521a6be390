/-
 What the document's own Check of one proposal returns.
-/
import Derived.Test.YtgpigjoonhghhaaGreatQZ0
namespace Go.Proofs.YtgpigjoonhghhaaGreat
open Go.RowKit
set_option linter.unusedVariables false
theorem errTrs_step (ts:List Tr) (j:Nat) (hj:j<ts.length):errTrs (ts.take j) (ts.drop j) =
  if ts[j].t<1∨5<ts[j].t∨ts[j].i<0∨65535<ts[j].i∨ts[j].k<0∨65535<ts[j].k then 5 else if ts[j]∈ts.take j then 9 else errTrs (ts.take (j+1)) (ts.drop (j+1)):=by
 rw [List.drop_eq_getElem_cons hj,errTrs,List.take_add_one,List.getElem?_eq_getElem hj]
 rfl
def ErrNew (w:World) (E:Int) (e:Ending) (w':World):Prop:=e=.returned (.int .i64 E)∧Below w.heap.size w w'
theorem eql_tr (w:World) (a b c a' b' c':Int):(binOp .eql 118 (.agg #[.int .i64 a,.int .i64 b,.int .i64 c]) (.agg #[.int .i64 a',.int .i64 b',.int .i64 c'])).run Tryz.prog w=.ok (.bool (a == a' && b == b' && c == c')) w:=by
 go_simp
 by_cases h1:a=a'<;>by_cases h2:b=b'<;>by_cases h3:c=c'<;>simp [h1,h2,h3]
set_option maxHeartbeats 1600000 in
set_option maxRecDepth 100000 in
theorem one_any (x:PrP) (k:Int) (w:World) (h:OkD w x) :
  Calls Tryz.prog 74 #[.agg #[.int .i64 x.n,.int .i64 x.p,.slice x.sp x.sn x.sc,.slice x.tp x.tn x.tc],.int .i64 k] w (ErrNew w (errPr x.pr k)):=by
 obtain ⟨E,hE⟩ : ∃ E,errPr x.pr k=E:=⟨_,rfl⟩
 rw [hE]
 unfold errPr PrP.pr at hE
 simp only at hE
 have hs:x.s.length=x.sn:=h.s.len
 have ht:x.ts.length=x.tn:=h.ts.len
 rw [hs,ht] at hE
 have hsn:=h.s.le
 have htn:=h.ts.le
 have HT:=hidden h.ts
 have HE:=hidden hE
 clear h hE hs
 obtain ⟨n,p,sp,sn,sc,s,tp,tn,tc,ts⟩:=x
 simp only at *
 have HTL:=hidden ht
 clear ht
 by_cases h1:n≠k
 ·have hE:=HE.out
  rw [if_pos h1] at hE
  have h1':(n != k)=true:=by simpa using h1
  go_enter Tryz.func74,Tryz.ntmps74
  go_wp2
  go_ret
  subst hE
  exact ⟨rfl,(Below.refl _ w).alloc (Nat.le_refl _) _⟩
 obtain rfl:n=k:=by omega
 by_cases h2:p<1
 ·have hE:=HE.out
  rw [if_neg h1,if_pos (Or.inl h2)] at hE
  go_enter Tryz.func74,Tryz.ntmps74
  go_wp2
  go_ret
  subst hE
  exact ⟨rfl,(Below.refl _ w).alloc (Nat.le_refl _) _⟩
 by_cases h3:3<p
 ·have hE:=HE.out
  rw [if_neg h1,if_pos (Or.inr h3)] at hE
  go_enter Tryz.func74,Tryz.ntmps74
  go_wp2
  go_ret
  subst hE
  exact ⟨rfl,(Below.refl _ w).alloc (Nat.le_refl _) _⟩
 have g2:¬ (p<1∨3<p):=by omega
 by_cases h4:(p=1∧sn≠0∧sn≠8)∨(p≠1∧sn≠4)
 ·have hE:=HE.out
  rw [if_neg h1,if_neg g2,if_pos h4] at hE
  have HE5:=hidden hE
  clear hE HE
  rcases h4 with ⟨rfl,h5,h6⟩ | ⟨h5,h6⟩
  ·have h5':((sn:Int) != 0)=true:=by simp;omega
   have h6':((sn:Int) != 8)=true:=by simp;omega
   go_enter Tryz.func74,Tryz.ntmps74
   go_wp2
   go_ret
   have hE:=HE5.out
   subst hE
   exact ⟨rfl,(Below.refl _ w).alloc (Nat.le_refl _) _⟩
  ·have h5':(p == 1)=false:=by simpa using h5
   have h5'':(p != 1)=true:=by simpa using h5
   have h6':((sn:Int) != 4)=true:=by simp;omega
   go_enter Tryz.func74,Tryz.ntmps74
   go_wp2
   go_ret
   have hE:=HE5.out
   subst hE
   exact ⟨rfl,(Below.refl _ w).alloc (Nat.le_refl _) _⟩
 have hE0:=HE.out
 rw [if_neg h1,if_neg g2,if_neg h4] at hE0
 have HE0:=hidden hE0
 clear hE0 HE
 have hgood:(p=1∧sn=0)∨(p=1∧sn=8)∨(p≠1∧sn=4):=by omega
 clear h1 g2 h4
 rcases hgood with ⟨rfl,rfl⟩ | ⟨rfl,rfl⟩ | ⟨h5,rfl⟩
 all_goals
  have h5':True:=trivial
  try (replace h5':(p == 1)=false:=by simpa using h5)
  try (have h5'':(p != 1)=true:=by simpa using h5)
  by_cases h7:tn=0
  ·have hE:=HE0.out
   rw [if_pos h7] at hE
   subst h7
   go_enter Tryz.func74,Tryz.ntmps74
   go_wp2
   go_ret
   subst hE
   exact ⟨rfl,(Below.refl _ w).alloc (Nat.le_refl _) _⟩
  by_cases h8:24<tn
  ·have hE:=HE0.out
   rw [if_neg h7,if_pos h8] at hE
   go_enter Tryz.func74,Tryz.ntmps74
   go_wp2
   go_ret
   subst hE
   exact ⟨rfl,(Below.refl _ w).alloc (Nat.le_refl _) _⟩
  have hE:=HE0.out
  rw [if_neg h7,if_neg h8] at hE
  have HEL:=hidden hE
  have h7':((tn:Int) == 0)=false:=by simp;omega
  clear hE HE0
  go_enter Tryz.func74,Tryz.ntmps74
  go_wp2
  go_loopw [5] (fun i wr=>∃ j:Nat,j≤tn∧i=.int .i64 j∧errTrs (ts.take j) (ts.drop j)=E∧wr.cell? ⟨w.heap.size,3,none⟩=some (.slice tp tn tc)∧Below w.heap.size w wr) (fun i _=>tn - (intOf i).toNat)
  case atStart=>exact ⟨0,by omega,rfl,by simpa using HEL.out,by go_simp,(Below.refl _ w).alloc (Nat.le_refl _) _⟩
  case round =>
   obtain ⟨j,hj,rfl,herr,hbox,hbel⟩:=hrel
   have HBL:=hidden hbel
   have HBX:=hidden hbox
   by_cases hlt:¬ j<tn
   ·obtain rfl:j=tn:=by omega
    rw [List.drop_of_length_le (by rw [HTL.out];exact Nat.le_refl _),errTrs] at herr
    have HER:=hidden herr
    clear herr hbel
    go_wp2
    go_ret
    have hE:=HER.out
    subst hE
    exact ⟨rfl,HBL.out⟩
   replace hlt:j<tn:=by omega
   have hlt':(j:Int)<tn:=by omega
   obtain ⟨g,rfl,hc,hint⟩:=(HT.out.below hbel).cell j (by rw [HTL.out];exact hlt)
   have hst:=errTrs_step ts j (by rw [HTL.out];exact hlt)
   rw [herr] at hst
   obtain ⟨y,hy⟩ : ∃ y,ts[j]'(by rw [HTL.out];exact hlt)=y:=⟨_,rfl⟩
   rw [hy] at hst hc hint
   have HY:=hidden hy
   obtain ⟨t,i,kk⟩:=y
   have c0:=hc 0 _ rfl
   have c1:=hc 1 _ rfl
   have c2:=hc 2 _ rfl
   have HST:=hidden hst
   have HC0:=hidden c0
   have HC1:=hidden c1
   have HC2:=hidden c2
   simp only [KTr,Nat.add_zero] at c0 c1 c2
   clear hst herr hbel hc hy
   obtain ⟨⟨t0,t1⟩,⟨i0,i1⟩,⟨k0,k1⟩⟩:=hint
   simp only at t0 t1 i0 i1 k0 k1 HST
   have HBA:Hid (Below w.heap.size w (wr.alloc (.cells #[.int .i64 t,.int .i64 i,.int .i64 kk] 118))):=hidden (HBL.out.alloc HBL.out.size _)
   by_cases q1:t<1
   ·have hE:=HST.out
    rw [if_pos (Or.inl q1)] at hE
    have HE9:=hidden hE
    clear hE HST
    go_wp2
    go_ret
    have hE:=HE9.out
    subst hE
    exact ⟨rfl,HBA.out⟩
   by_cases q2:5<t
   ·have hE:=HST.out
    rw [if_pos (Or.inr (Or.inl q2))] at hE
    have HE9:=hidden hE
    clear hE HST
    go_wp2
    go_ret
    have hE:=HE9.out
    subst hE
    exact ⟨rfl,HBA.out⟩
   by_cases q3:i<0
   ·have hE:=HST.out
    rw [if_pos (Or.inr (Or.inr (Or.inl q3)))] at hE
    have HE9:=hidden hE
    clear hE HST
    go_wp2
    go_ret
    have hE:=HE9.out
    subst hE
    exact ⟨rfl,HBA.out⟩
   by_cases q4:65535<i
   ·have hE:=HST.out
    rw [if_pos (Or.inr (Or.inr (Or.inr (Or.inl q4))))] at hE
    have HE9:=hidden hE
    clear hE HST
    go_wp2
    go_ret
    have hE:=HE9.out
    subst hE
    exact ⟨rfl,HBA.out⟩
   by_cases q5:kk<0
   ·have hE:=HST.out
    rw [if_pos (Or.inr (Or.inr (Or.inr (Or.inr (Or.inl q5)))))] at hE
    have HE9:=hidden hE
    clear hE HST
    go_wp2
    go_ret
    have hE:=HE9.out
    subst hE
    exact ⟨rfl,HBA.out⟩
   by_cases q6:65535<kk
   ·have hE:=HST.out
    rw [if_pos (Or.inr (Or.inr (Or.inr (Or.inr (Or.inr q6)))))] at hE
    have HE9:=hidden hE
    clear hE HST
    go_wp2
    go_ret
    have hE:=HE9.out
    subst hE
    exact ⟨rfl,HBA.out⟩
   have hst:=HST.out
   rw [if_neg (by omega)] at hst
   have HS2:=hidden hst
   clear hst HST
   have HBX2:Hid ((wr.alloc (.cells #[.int .i64 t,.int .i64 i,.int .i64 kk] 118)).cell? ⟨w.heap.size,3,none⟩=some (.slice (some ⟨g,0,none⟩) tn tc)):=hidden (cell_below ((Below.refl _ wr).alloc (Nat.le_refl _) _) _ _ HBX.out)
   go_wp2
   go_loopw [7] (fun m wq=>∃ q:Nat,q≤j∧m=.int .i64 q∧(∀ r,r<q→ts[r]?≠some ⟨t,i,kk⟩)∧wq.cell? ⟨w.heap.size,3,none⟩=some (.slice (some ⟨g,0,none⟩) tn tc)∧wq.cell? ⟨wr.heap.size,0,none⟩=some (.int .i64 t)∧wq.cell? ⟨wr.heap.size,1,none⟩=some (.int .i64 i)∧wq.cell? ⟨wr.heap.size,2,none⟩=some (.int .i64 kk)∧Below w.heap.size w wq) (fun m _=>j - (intOf m).toNat)
   case atStart=>exact ⟨0,by omega,rfl,by omega,HBX2.out,by go_simp,by go_simp,by go_simp,HBA.out⟩
   case round =>
    obtain ⟨q,hq,rfl,hno,b3,y0,y1,y2,hbq⟩:=hrel
    have HNO:=hidden hno
    have HBQ:=hidden hbq
    have HB3:=hidden b3
    have HY0:=hidden y0
    have HY1:=hidden y1
    have HY2:=hidden y2
    clear hno
    by_cases hqj:¬ q<j
    ·obtain rfl:q=j:=by omega
     have hnot:(⟨t,i,kk⟩:Tr) ∉ ts.take q:=by
      intro hm
      obtain ⟨r,hr,he⟩:=List.mem_take_iff_getElem.1 hm
      refine HNO.out r (by omega) ?_
      rw [List.getElem?_eq_getElem (by omega),he]
     have hE:=HS2.out
     rw [if_neg hnot] at hE
     have HE9:=hidden hE
     clear hE HS2 b3 y0 y1 y2 hbq
     go_wp2
     go_roundw
     case rel=>exact ⟨q+1,by omega,by go_num,HE9.out.symm,HB3.out,HBQ.out⟩
     case measure=>simp [intOf];omega
    replace hqj:q<j:=by omega
    have hqj':(q:Int)<j:=by omega
    obtain ⟨g',hg',hc,hint⟩:=(HT.out.below hbq).cell q (by rw [HTL.out];omega)
    simp at hg'
    subst hg'
    obtain ⟨z,hz⟩ : ∃ z,ts[q]'(by rw [HTL.out];omega)=z:=⟨_,rfl⟩
    rw [hz] at hc hint
    have HZ:=hidden hz
    obtain ⟨zt,zi,zk⟩:=z
    have z0:=hc 0 _ rfl
    have z1:=hc 1 _ rfl
    have z2:=hc 2 _ rfl
    simp only [KTr,Nat.add_zero] at z0 z1 z2
    clear hc hint hz hbq
    have hqe:=fun w=>eql_tr w zt zi zk t i kk
    by_cases heq:zt=t∧zi=i∧zk=kk
    ·obtain ⟨rfl,rfl,rfl⟩:=heq
     have hin:(⟨zt,zi,zk⟩:Tr)∈ts.take j:=List.mem_take_iff_getElem.2 ⟨q,by have:=HTL.out;omega,HZ.out⟩
     have hE:=HS2.out
     rw [if_pos hin] at hE
     have HE9:=hidden hE
     have hqb:(zt == zt && zi == zi && zk == zk)=true:=by simp
     simp only [hqb] at hqe
     clear hE HS2 hqb
     go_wp2_with fail
     go_region
     go_wp2
     go_ret
     have hE:=HE9.out
     subst hE
     exact ⟨rfl,HBQ.out.trans (drew_below ⟨1,rfl⟩)⟩
    ·have hqb:(zt == t && zi == i && zk == kk)=false:=by
      rw [Bool.eq_false_iff]
      intro hh
      simp at hh
      exact heq ⟨hh.1.1,hh.1.2,hh.2⟩
     simp only [hqb] at hqe
     clear hqb
     go_wp2_with fail
     go_region
     go_wp2
     go_roundw
     case rel =>
      refine ⟨q+1,by omega,by go_num,fun r hr=>?_,HB3.out,HY0.out,HY1.out,HY2.out,HBQ.out.trans (drew_below ⟨1,rfl⟩)⟩
      rcases Nat.lt_succ_iff_lt_or_eq.1 hr with hrq | hrq
      ·exact HNO.out r hrq
      ·subst hrq
       rw [List.getElem?_eq_getElem (by have:=HTL.out;omega),HZ.out]
       intro hh
       simp at hh
       exact heq hh
     case measure=>simp [intOf];omega
end Go.Proofs.YtgpigjoonhghhaaGreat
