/-
 message.Inside of raw payloads that were found, none of which wraps others: read as message.read reads them.
 Two readings of the same raw payloads: the same error, or payloads that are the same.
 The document's Build of drawn payloads, told whole.
 The document's Same of messages: of two whose headers are one and whose payloads are the same.
-/
import Derived.Test.YtgpigjoonhghhaaGreatQZ35
import Derived.Test.YtgpigjoonhghhaaGreatQZ32
import Derived.Test.YtgpigjoonhghhaaGreatQZ33
import Derived.Test.YtgpigjoonhghhaaGreatQZ17
import Derived.Test.YtgpigjoonhghhaaGreatQZ5
import Derived.Test.YtgpigjoonhghhaaGreatQZ14
namespace Go.Proofs.YtgpigjoonhghhaaGreat
open Go.RowKit
set_option linter.unusedVariables false
set_option linter.unusedSimpArgs false
theorem mwraps_any (k:Int) (w:World):Calls Tryz.prog 24 #[.int .i64 k] w fun e w'=>e=.returned (.bool (lastK k))∧w'=w:=by
 unfold lastK
 go_enter Tryz.func24,Tryz.ntmps24
 by_cases h1:k=46
 ·subst h1
  go_wp2
  go_ret
  exact ⟨rfl,rfl⟩
 ·have e1:(k == 46)=false:=by simpa using h1
  rw [e1]
  go_wp2
  go_ret
  exact ⟨rfl,rfl⟩
set_option maxHeartbeats 800000 in
theorem ins1_any (k:Int) (c:Bool) (p:Option Addr) (n m:Nat) (w:World) :
  Calls Tryz.prog 23 #[.agg #[.int .i64 k,.bool c,.slice p n m]] w fun e w'=>e=.returned (.bool (lastK k))∧Below w.heap.size w w':=by
 have HB0:=hidden ((Below.refl w.heap.size w).alloc (Nat.le_refl _) (.cells #[.int .i64 k,.bool c,.slice p n m] 51))
 have HW:=hidden (fun W=>mwraps_any k W)
 generalize lastK k=b at *
 go_enter Tryz.func23,Tryz.ntmps23
 go_wp2_with (first
  | (go_at_call 24;(with_reducible refine (HW.out _).mono ?_);rintro _ w1 ⟨rfl,rfl⟩)
  | fail)
 go_ret
 exact ⟨rfl,HB0.out⟩
def anyW (l:List RawP):Bool:=l.any (fun y=>lastK y.k)
set_option maxHeartbeats 1600000 in
set_option maxRecDepth 100000 in
theorem indexRaw_any (p:Option Addr) (n c:Nat) (l:List RawP) (w:World) (h:RdR w p n c l) :
  Calls Tryz.prog 48 #[.slice p n c,.func (.func 23) #[] #[]] w fun e w'=>∃ r:Int,e=.returned (.int .i64 r)∧decide (0≤r)=anyW l∧Below w.heap.size w w':=by
 have hn:=h.le
 have H:=hidden h
 have HL:=Is.mk h.len
 clear h
 obtain ⟨R,hR⟩ : ∃ R,anyW l=R:=⟨_,rfl⟩
 have HR:Is (anyW (l.drop 0)) R:=⟨by simpa using hR⟩
 rw [hR]
 clear hR
 go_enter Tryz.func48,Tryz.ntmps48
 go_wp2_with fail
 go_loopw [8] (fun i wr=>∃ j:Nat,j≤n∧i=.int .i64 j∧Is (anyW (l.drop j)) R∧Below w.heap.size w wr) (fun i _=>n - (intOf i).toNat)
 case atStart=>exact ⟨0,by omega,rfl,HR,Below.refl _ _⟩
 case round =>
  obtain ⟨j,hj,rfl,hrel,hb⟩:=hrel
  have HB:=hidden hb
  clear hb
  by_cases hlt:j<n
  ·have hlt':(j:Int)<n:=by omega
   have hjl:j<l.length:=by rw [HL.eq];exact hlt
   obtain ⟨g,rfl,c0,c1,c2,-⟩:=(H.out.below HB.out).elem j hjl
   have hf:=hrel.eq
   rw [List.drop_eq_getElem_cons hjl] at hf
   unfold anyW at hf
   rw [List.any_cons] at hf
   generalize l[j]=x at *
   obtain ⟨xk,xc,xp,xn,xm,xb⟩:=x
   simp only at c0 c1 c2 hf
   have HT:=hidden (ins1_any xk xc xp xn xm)
   generalize lastK xk=b at hf HT
   clear hrel
   cases b with
   | true =>
    have HF:Is R true:=⟨by rw [←hf];rfl⟩
    clear hf
    go_wp2_with (first
     | (go_at_call 23;(with_reducible refine (HT.out _).mono ?_);rintro _ w1 ⟨rfl,hb1⟩;have HB1:=hidden (HB.out.trans (hb1.mono HB.out.size));clear hb1)
     | fail)
    go_ret
    exact ⟨(j:Int),rfl,by rw [HF.eq];exact decide_eq_true (by omega),HB1.out⟩
   | false =>
    have HF:Is (anyW (l.drop (j+1))) R:=⟨by rw [←hf,Bool.false_or];rfl⟩
    clear hf
    go_wp2_with (first
     | (go_at_call 23;(with_reducible refine (HT.out _).mono ?_);rintro _ w1 ⟨rfl,hb1⟩;have HB1:=hidden (HB.out.trans (hb1.mono HB.out.size));clear hb1)
     | fail)
    go_roundw
    case rel=>exact ⟨j+1,by omega,by go_num,HF,HB1.out⟩
    case measure=>simp [intOf];omega
  ·have hlt':¬ (j:Int)<n:=by omega
   have HF:Is R false:=⟨by rw [←hrel.eq,List.drop_of_length_le (by rw [HL.eq];omega)];rfl⟩
   clear hrel
   go_wp2
   go_ret
   exact ⟨-1,rfl,by rw [HF.eq];rfl,HB.out⟩
set_option maxHeartbeats 800000 in
theorem containsRaw_any (p:Option Addr) (n c:Nat) (l:List RawP) (w:World) (h:RdR w p n c l) :
  Calls Tryz.prog 22 #[.slice p n c,.func (.func 23) #[] #[]] w fun e w'=>e=.returned (.bool (anyW l))∧Below w.heap.size w w':=by
 have HC:=hidden (indexRaw_any p n c l w h)
 generalize anyW l=R at *
 clear h
 go_enter Tryz.func22,Tryz.ntmps22
 go_wp2_with (first
  | (go_at_call 48;(with_reducible refine (HC.out).mono ?_);rintro _ w1 ⟨z,rfl,hz,hb1⟩;have HB1:=hidden hb1;have HZ:=Is.mk hz;clear hb1 hz)
  | fail)
 go_ret
 exact ⟨by rw [←HZ.eq];rfl,HB1.out⟩
set_option maxHeartbeats 6400000 in
set_option maxRecDepth 100000 in
theorem insideX (i r nx x f m:Int) (hx:IntR x) (first:Int) (p:Option Addr) (n c:Nat) (xs:List Int) (w:World) (h:Byt w p n c xs) (hn:n≤90000) (rs:List Raw) (hC:parseTop first xs=⟨rs,0,0⟩) (hW : ∀ y∈rs,lastK y.k=false) :
  Calls Tryz.prog 9 #[.agg #[.int .u64 i,.int .u64 r,.int .i64 nx,.int .i64 x,.int .i64 f,.int .u32 m],.int .i64 first,.slice p n c] w (ReadX w i r nx x f m rs):=by
 have HM0:=hidden (MIn.new (w.alloc (.cells #[.int .u64 i,.int .u64 r,.int .i64 nx,.int .i64 x,.int .i64 f,.int .u32 m] 29)) 0 0 0 0 0 0 (.slice none 0 0) 32)
 have hba:=(Below.refl w.heap.size w).alloc (Nat.le_refl _) (.cells #[.int .u64 i,.int .u64 r,.int .i64 nx,.int .i64 x,.int .i64 f,.int .u32 m] 29)
 have hal:=(Below.refl (w.alloc (.cells #[.int .u64 i,.int .u64 r,.int .i64 nx,.int .i64 x,.int .i64 f,.int .u32 m] 29)).heap.size (w.alloc (.cells #[.int .u64 i,.int .u64 r,.int .i64 nx,.int .i64 x,.int .i64 f,.int .u32 m] 29))).alloc (Nat.le_refl _) (.cells #[.int .u64 0,.int .u64 0,.int .i64 0,.int .i64 0,.int .i64 0,.int .u32 0,.slice none 0 0] 32)
 have HB0:=hidden (hba.trans (hal.mono hba.size))
 have HH0:=hidden ((HdrIn.new w i r nx x f m 29).below hal)
 rw [World.size_alloc] at HM0
 have HX:=hidden hx
 have HPC:=hidden (fun W (hW:Below w.heap.size w W)=>parseC_any p n c xs W (h.below hW) (by omega) first _ rfl)
 have HRK:=hidden (parseTop_ok 100000 first xs h.rng (by rw [h.len];omega))
 unfold ParsedC at HPC
 rw [hC] at HPC HRK
 simp only at HPC HRK
 have HNW:=hidden hW
 clear h hC hW hx hba hal
 go_enter Tryz.func9,Tryz.ntmps9
 go_upto_region 1 with fail
 generalize World.alloc (World.alloc w _) _=w2 at *
 go_upto_region 4 with (first
  | (go_at_call 21;(with_reducible refine (HPC.out _ HB0.out).mono ?_);rintro e w3 ⟨v0,l,rfl,hrw,hraw,hl40,hb3⟩;obtain ⟨pv,cv,rfl,hrd⟩:=hrw.rd (rfl:l.length=l.length);have HRD:=hidden hrd;have HL4:=hidden hl40;have HRA:=hidden hraw;have HH3:=hidden (HH0.out.below hb3);have HM3:=hidden (HM0.out.below hb3);have HB3:=hidden (HB0.out.trans (hb3.mono HB0.out.size));clear hrw hrd hraw hl40 hb3 HPC)
  | fail)
 have hany:anyW l=false:=by
  unfold anyW
  rw [List.any_eq_false]
  intro y hy
  have h9:lastK y.k=false:=HNW.out y.raw (by rw [←HRA.out];exact List.mem_map_of_mem hy)
  rw [h9]
  decide
 have HCF:=hidden (containsRaw_any pv l.length cv l w3 HRD.out)
 rw [hany] at HCF
 clear hany
 go_upto_region 6 with (first
  | (go_at_call 22;(with_reducible refine (HCF.out).mono ?_);rintro e w4 ⟨rfl,hb4⟩;have HRD4:=hidden (HRD.out.below hb4);have HH4:=hidden (HH3.out.below hb4);have HM4:=hidden (HM3.out.below hb4);have HB4:=hidden (HB3.out.trans (hb4.mono HB3.out.size));clear hb4 HCF)
  | fail)
 have HRR:=hidden (mreadX i r nx x f m HX.out pv l.length cv l w4 HRD4.out HL4.out (fun y hy=>HRK.out y.raw (by rw [←HRA.out];exact List.mem_map_of_mem hy)))
 rw [HRA.out] at HRR
 obtain ⟨c0,c1,c2,c3,c4,c5,-⟩:=HH4.out
 simp only [Nat.zero_add] at c1 c2 c3 c4 c5
 obtain ⟨a0,a1,a2,a3,a4,a5,a6,af⟩:=HM4.out
 have f0:=af 0
 have f1:=af 1
 have f2:=af 2
 have f3:=af 3
 have f4:=af 4
 have f5:=af 5
 have f6:=af 6
 clear af
 have hsz:w.heap.size+1<w4.heap.size:=HM4.out.lt
 go_wp2_with (first
  | (go_at_call 25;(with_reducible refine (HRR.out).mono ?_);rintro e w5 hX;obtain ⟨i',r',nx',x',f',m',q',n',d',E',rfl⟩:=hX.form;have HXX:=hidden hX;have hb5:=hX.1;have HM5:=hidden (HM4.out.below hb5);have HB5:=hidden (HB4.out.trans (hb5.mono HB4.out.size));clear hX hb5 HRR a0 a1 a2 a3 a4 a5 a6 f0 f1 f2 f3 f4 f5 f6 c0 c1 c2 c3 c4 c5;obtain ⟨a0,a1,a2,a3,a4,a5,a6,af⟩:=HM5.out;have f0:=af 0;have f1:=af 1;have f2:=af 2;have f3:=af 3;have f4:=af 4;have f5:=af 5;have f6:=af 6;clear af)
  | fail)
 exact ret_msg2 (g:=w.heap.size+1) rfl rfl rfl rfl (HM5.out.setAll i' r' nx' x' f' m' (.slice q' n' d')) (HXX.out.after (below_setAll HB5.out (Nat.le_succ _) _ _ _ _ _ _ _) HB4.out.size (kptAll _ _ hsz _ _ _ _ _ _ _))
end Go.Proofs.YtgpigjoonhghhaaGreat

namespace Go.Proofs.YtgpigjoonhghhaaGreat
open Go.RowKit
set_option linter.unusedVariables false
set_option linter.unusedSimpArgs false
theorem twin_two (w:World) : ∀ (Y1 Y2:List (Pv × Raw)),Y1.map Prod.snd=Y2.map Prod.snd→(∀ y∈Y1,y.1.t=y.2.k∧RdP y.2 y.1 w)→(∀ y∈Y2,y.1.t=y.2.k∧RdP y.2 y.1 w) →
  ∃ X:List (PZ × PZ),X.map (fun t=>t.1.1)=Y1.map Prod.fst∧X.map (fun t=>t.2.1)=Y2.map Prod.fst∧∀ t∈X,Twin w t
 | [],[],_,_,_=>⟨[],rfl,rfl,fun t ht=>by cases ht⟩
 | [],z :: Z,h,_,_=>by simp at h
 | y :: Y,[],h,_,_=>by simp at h
 | (y,r) :: Y,(z,s) :: Z,h,hy,hz=>by
  rw [List.map_cons,List.map_cons,List.cons.injEq] at h
  obtain ⟨h0,h1⟩:=h
  simp only at h0
  subst h0
  obtain ⟨X,x1,x2,x3⟩:=twin_two w Y Z h1 (fun a ha=>hy a (List.mem_cons_of_mem _ ha)) (fun a ha=>hz a (List.mem_cons_of_mem _ ha))
  obtain ⟨ty,-,C,c1,c2⟩:=hy _ (List.mem_cons_self ..)
  obtain ⟨tz,-,D,d1,d2⟩:=hz _ (List.mem_cons_self ..)
  refine ⟨((y,C),(z,D)) :: X,by rw [List.map_cons,List.map_cons,x1],by rw [List.map_cons,List.map_cons,x2],fun t ht=>?_⟩
  rcases List.mem_cons.1 ht with rfl | ht
  ·exact ⟨c1,d1,rd_same r.k r.b y z C D ty tz c2 d2⟩
  ·exact x3 t ht
def zeroRet (E:Int):Ending:=.returned (.tuple #[.agg #[.int .u64 0,.int .u64 0,.int .i64 0,.int .i64 0,.int .i64 0,.int .u32 0,.slice none 0 0],.int .i64 E])
def okRet (i r nx x f m:Int) (q:Option Addr) (n d:Nat):Ending:=.returned (.tuple #[.agg #[.int .u64 i,.int .u64 r,.int .i64 nx,.int .i64 x,.int .i64 f,.int .u32 m,.slice q n d],.int .i64 0])
theorem ReadX.both {w1 w2 w1' w2':World} {i r nx x f m:Int} {rs1 rs2:List Raw} {e1 e2:Ending} (h1:ReadX w1 i r nx x f m rs1 e1 w1') (h2:ReadX w2 i r nx x f m rs2 e2 w2') (hE:errR rs1=errR rs2) (hK:knownR rs1=knownR rs2) (hk:Kpt w1' w2' w1.heap.size) :
  (∃ E,E≠0∧e1=zeroRet E∧e2=zeroRet E) ∨
  (∃ (X:List (PZ × PZ)) (q q':Option Addr) (n d d':Nat),e1=okRet i r nx x f m q n d∧e2=okRet i r nx x f m q' n d'∧RdG KPv DPv w2' q n d (X.map (fun t=>t.1.1))∧RdG KPv DPv w2' q' n d' (X.map (fun t=>t.2.1))∧∀ t∈X,Twin w2' t):=by
 have tw : ∀ Y1 Y2:List (Pv × Raw),Y1.map Prod.snd=knownR rs1→Y2.map Prod.snd=knownR rs2→(∀ y∈Y1,y.1.t=y.2.k∧∀ W,Kpt w1' W w1.heap.size→RdP y.2 y.1 W)→(∀ y∈Y2,y.1.t=y.2.k∧∀ W,Kpt w2' W w2.heap.size→RdP y.2 y.1 W) →
   ∃ X:List (PZ × PZ),X.map (fun t=>t.1.1)=Y1.map Prod.fst∧X.map (fun t=>t.2.1)=Y2.map Prod.fst∧(∀ t∈X,Twin w2' t)∧checkM x f (Y1.map Prod.fst)=checkM x f (Y2.map Prod.fst)∧Y1.length=Y2.length:=fun Y1 Y2 k1 k2 r1 r2=>by
  have k3:Y1.map Prod.snd=Y2.map Prod.snd:=by rw [k1,k2,hK]
  obtain ⟨X,x1,x2,x3⟩:=twin_two w2' Y1 Y2 k3 (fun y hy=>⟨(r1 y hy).1,(r1 y hy).2 w2' hk⟩) (fun y hy=>⟨(r2 y hy).1,(r2 y hy).2 w2' (Kpt.refl _ _)⟩)
  refine ⟨X,x1,x2,x3,?_,by have:=congrArg List.length k3;simpa using this⟩
  rw [←x1,←x2]
  exact check_key (twin_check w2' X x3) x f
 rcases h1.2 with ⟨E1,a1,a2,a3,a4⟩ | ⟨a1,Y1,q,d,a2,a3,a4,a5,a6⟩
 ·rcases h2.2 with ⟨E2,b1,b2,b3,b4⟩ | ⟨b1,Y2,q',d',b2,b3,b4,b5,b6⟩
  ·left
   refine ⟨E1,a1,a3,?_⟩
   have:E1=E2:=by
    rcases a4 with ⟨a4,a5⟩ | ⟨a4,Y1,a5,a6,a7⟩
    ·rcases b4 with ⟨b4,b5⟩ | ⟨b4,Y2,b5,b6,b7⟩
     ·rw [a5,b5,hE]
     ·exact absurd (hE.trans b4) a4
    ·rcases b4 with ⟨b4,b5⟩ | ⟨b4,Y2,b5,b6,b7⟩
     ·exact absurd (hE.symm.trans a4) b4
     ·obtain ⟨X,-,-,-,hc,-⟩:=tw Y1 Y2 a5 b5 a6 b6
      rw [a7,b7,hc]
   rw [this]
   exact b3
  ·exfalso
   rcases a4 with ⟨a4,a5⟩ | ⟨a4,Y1,a5,a6,a7⟩
   ·exact a4 (hE.trans b1)
   ·obtain ⟨X,-,-,-,hc,-⟩:=tw Y1 Y2 a5 b4 a6 b5
    exact a1 (a7.trans (hc.trans b6))
 ·rcases h2.2 with ⟨E2,b1,b2,b3,b4⟩ | ⟨b1,Y2,q',d',b2,b3,b4,b5,b6⟩
  ·exfalso
   rcases b4 with ⟨b4,b5⟩ | ⟨b4,Y2,b5,b6,b7⟩
   ·exact b4 (hE.symm.trans a1)
   ·obtain ⟨X,-,-,-,hc,-⟩:=tw Y1 Y2 a4 b5 a5 b6
    exact b1 (b7.trans (hc.symm.trans a6))
  ·right
   obtain ⟨X,x1,x2,x3,-,hl⟩:=tw Y1 Y2 a4 b4 a5 b5
   refine ⟨X,q,q',Y1.length,d,d',a2,by rw [b2,hl];rfl,?_,?_,x3⟩
   ·rw [x1]
    exact a3 w2' hk
   ·rw [x2,hl]
    exact b3 w2' (Kpt.refl _ _)
theorem errR_skip (l r:List Raw) (y:Raw) (hy:knownK y.k=false) (hc:y.c=false):errR (l++y :: r)=errR (l++r):=by
 induction l with
 | nil =>
  show errR (y :: r)=errR r
  rw [errR,if_neg (by rw [hy];decide),if_neg (by rw [hc];decide)]
 | cons z l ih =>
  show errR (z :: (l++y :: r))=errR (z :: (l++r))
  rw [errR,errR,ih]
theorem errR_crit (l r:List Raw) (y:Raw) (hy:knownK y.k=false) (hc:y.c=true) (hl:errR l=0):errR (l++y :: r)=6:=by
 induction l with
 | nil =>
  show errR (y :: r)=6
  rw [errR,if_neg (by rw [hy];decide),if_pos hc]
 | cons z l ih =>
  show errR (z :: (l++y :: r))=6
  rw [errR] at hl ⊢
  split
  ·rename_i h1
   rw [if_pos h1] at hl
   split
   ·rename_i h2
    rw [if_pos h2] at hl
    exact absurd hl h2
   ·rename_i h2
    rw [if_neg h2] at hl
    exact ih hl
  ·rename_i h1
   rw [if_neg h1] at hl
   split
   ·rename_i h2
    exact absurd ((if_pos h2).symm.trans hl) (by decide)
   ·rename_i h2
    rw [if_neg h2] at hl
    exact ih hl
theorem knownR_skip (l r:List Raw) (y:Raw) (hy:knownK y.k=false):knownR (l++y :: r)=knownR (l++r):=by
 unfold knownR
 rw [List.filter_append,List.filter_append,List.filter_cons_of_neg (by rw [hy];decide)]
end Go.Proofs.YtgpigjoonhghhaaGreat

namespace Go.Proofs.YtgpigjoonhghhaaGreat
open Go.RowKit
set_option linter.unusedVariables false
set_option linter.unusedSimpArgs false
structure DrwZ (W:World) (z:PZ):Prop where
 rd:PvRd W z.1 z.2
 num:NumOk z.1
 vld:Vld z.1 z.2
theorem parseZ (z:PZ) (w:World) (h:DrwZ w z) (hk:Kind12 z.1.t):parseE z.1.t (buildB z.1 z.2).1=0:=by
 obtain ⟨bE,bL,bS⟩:=vld_build z.1 z.2 w h.rd h.num h.vld hk
 exact (build_parse z.1 z.2 w h.rd.rk (buildB z.1 z.2).1 (by rw [←bE]) (by omega) hk).1
theorem rbuildZ (z:PZ) (w:World) (h:DrwZ w z) (hk:Kind12 z.1.t) :
  Calls Tryz.prog 7 #[(.agg #[.int .i64 (z.1).t,.slice (z.1).pr.p (z.1).pr.n (z.1).pr.c,.int .i64 (z.1).eg,.slice (z.1).ed.p (z.1).ed.n (z.1).ed.c,.int .i64 (z.1).ik,.slice (z.1).id.p (z.1).id.n (z.1).id.c,.int .i64 (z.1).am,.slice (z.1).ad.p (z.1).ad.n (z.1).ad.c,.int .i64 (z.1).np,.slice (z.1).ns.p (z.1).ns.n (z.1).ns.c,.int .i64 (z.1).nt,.slice (z.1).nd.p (z.1).nd.n (z.1).nd.c,.int .i64 (z.1).dp,.slice (z.1).ds.p (z.1).ds.n (z.1).ds.c,.slice (z.1).se.p (z.1).se.n (z.1).se.c,.slice (z.1).da.p (z.1).da.n (z.1).da.c])] w fun e w'=>∃ (q:Option Addr) (N d:Nat),e=.returned (.tuple #[.agg #[.int .i64 z.1.t,.bool false,.slice q N d],.int .i64 0])∧Below w.heap.size w w'∧(∀ W,Kpt w' W w.heap.size→Byt W q N d (buildB z.1 z.2).1):=by
 obtain ⟨bE,bL,bS⟩:=vld_build z.1 z.2 w h.rd h.num h.vld hk
 have hp:=parseZ z w h hk
 have hR:rawR z.1.t (buildB z.1 z.2).1 (buildB z.1 z.2).2=0:=by unfold rawR;rw [bE,if_neg (by simp),hp,if_neg (by simp),if_neg (by omega)]
 have hF:=vld_fit z.1 z.2 h.num h.vld hk
 have hB:=rpBuild_of z.1 (buildB z.1 z.2).1 (buildB z.1 z.2).2 w hF (fun W hW=>by
  have:=rbody_all z.1 z.2 W (h.rd.below hW).rk hF bS (fun e=>vld_ds z.1 z.2 w h.rd h.vld e)
  rw [vld_rbody z.1 z.2 w h.rd h.num h.vld hk] at this
  exact this) (by omega) _ rfl
 rw [hR] at hB
 refine hB.mono ?_
 rintro e w' ⟨hbl,⟨-,q,d,rfl,hf⟩ | ⟨hne,-⟩⟩
 ·exact ⟨q,_,d,rfl,hbl,fun W hW=>hf.kp hW⟩
 ·exact absurd rfl hne
theorem kpt_belowS {w w':World} (hb:Below w.heap.size w w') (base:Nat):Kpt w w' base:=fun a v _ hc=>cell_below hb a v hc
theorem drawn_zip (w3:World) (B:Nat) (l:List Pv) (hk : ∀ y∈l,KindOk y.t) (hpv : ∀ y∈l,∃ C,Vld y C∧NumOk y∧C.pr.length≤2∧∀ w'',Kpt w3 w'' B→PvRd w'' y C) :
  ∃ Z:List PZ,Z.map Prod.fst=l∧(∀ z∈Z,MadeZ z)∧(∀ z∈Z,parseE z.1.t (buildB z.1 z.2).1=0)∧∀ W,Below w3.heap.size w3 W→∀ z∈Z,DrwZ W z:=by
 obtain ⟨Z,h1,h2⟩:=zip_made l (fun y C=>Vld y C∧NumOk y∧C.pr.length≤2∧∀ w'',Kpt w3 w'' B→PvRd w'' y C) hpv
 have hm : ∀ z∈Z,MadeZ z:=fun z hz=>by
  obtain ⟨a1,a2,a3,a4⟩:=h2 z hz
  have hkz:=hk z.1 (by rw [←h1];exact List.mem_map_of_mem hz)
  obtain ⟨b1,b2,b3⟩:=vld_small z.1 z.2 w3 (a4 w3 (Kpt.refl _ _)) a2 a1 a3 (by unfold Kind12;unfold KindOk at hkz;omega)
  exact ⟨hkz,b1,b2,b3⟩
 have hd : ∀ W,Below w3.heap.size w3 W→∀ z∈Z,DrwZ W z:=fun W hW z hz=>⟨(h2 z hz).2.2.2 W (kpt_belowS hW B),(h2 z hz).2.1,(h2 z hz).1⟩
 exact ⟨Z,h1,hm,fun z hz=>parseZ z w3 (hd w3 (Below.refl _ _) z hz) (hm z hz).k12,hd⟩
theorem lastZ (Z:List PZ) (h : ∀ z∈Z,MadeZ z) : ∀ y∈Z.map rawZ,lastK y.k=false:=fun y hy=>by
 obtain ⟨z,hz,rfl⟩:=List.mem_map.1 hy
 have:=(h z hz).t
 show (z.1.t == 46 || z.1.t == 53)=false
 simp
 omega
structure OkRs (rs:List Raw):Prop where
 few:rs.length≤10
 el : ∀ y∈rs,(1≤y.k∧y.k≤255)∧y.b.length≤8000∧lastK y.k=false
theorem OkRs.err : ∀ {rs:List Raw},(∀ y∈rs,(1≤y.k∧y.k≤255)∧y.b.length≤8000∧lastK y.k=false)→errC rs=0
 | [],_=>rfl
 | r :: l,h=>by
  obtain ⟨h1,h2,h3⟩:=h r (List.mem_cons_self ..)
  rw [errC,if_neg (by omega),if_neg (by omega),if_neg (by rw [h3];simp)]
  exact OkRs.err (fun y hy=>h y (List.mem_cons_of_mem _ hy))
theorem OkRs.build {rs:List Raw} (h:OkRs rs):buildC rs 0=(nextC 0 rs,encC 0 rs,0):=by
 have:=h.few
 unfold buildC
 rw [if_neg (by omega),if_neg (by rw [OkRs.err h.el];simp),if_neg (by omega),if_neg (by simp)]
theorem OkRs.next {rs:List Raw} (h:OkRs rs):0≤nextC 0 rs∧nextC 0 rs≤255:=by
 cases rs with
 | nil=>exact ⟨Int.le_refl _,by decide⟩
 | cons r l=>have:=(h.el r (List.mem_cons_self ..)).1;show 0≤r.k∧r.k≤255;omega
theorem OkRs.read {rs:List Raw} (h:OkRs rs):parseTop (nextC 0 rs) (encC 0 rs)=⟨rs,0,0⟩:=by
 have h1:=h.next
 have h2:=h.few
 unfold parseTop
 rw [if_neg (by omega)]
 exact parse_enc 0 (by omega) _ 40 (OkRs.err h.el) (by omega) (Or.inl rfl)
theorem OkRs.len {rs:List Raw} (h:OkRs rs):(encC 0 rs).length≤90000:=by
 have h1:=encC_len 0 rs (fun r hr=>(h.el r hr).2.1)
 have h2:=h.few
 omega
theorem okZ (Z:List PZ) (h : ∀ z∈Z,MadeZ z) (hn:Z.length≤7):OkRs (Z.map rawZ):=⟨by rw [List.length_map];omega,fun y hy=>by
 have hl:=lastZ Z h y hy
 obtain ⟨z,hz,rfl⟩:=List.mem_map.1 hy
 have h1:=(h z hz).t
 have h2:=(h z hz).len
 exact ⟨(show 1≤z.1.t∧z.1.t≤255 by omega),(show (buildB z.1 z.2).1.length≤8000 by omega),hl⟩⟩
theorem OkRs.more {rs:List Raw} (h:OkRs rs) (hf:rs.length≤7) (i:Nat) (x:Raw) (hk:60≤x.k∧x.k≤159) (hb:x.b.length=1):OkRs (rs.take i++x :: rs.drop i) :=
 ⟨by rw [List.length_append,List.length_cons,List.length_take,List.length_drop];omega,fun y hy=>by
  rcases List.mem_append.1 hy with hy | hy
  ·exact h.el y (List.mem_of_mem_take hy)
  ·rcases List.mem_cons.1 hy with rfl | hy
   ·exact ⟨by omega,by omega,by unfold lastK;simp;omega⟩
   ·exact h.el y (List.mem_of_mem_drop hy)⟩
theorem unk_no {k:Int} (h:60≤k∧k≤159):knownK k=false:=by unfold knownK;exact decide_eq_false (by omega)
def msgRet (i r nx x f m:Int) (q:Option Addr) (n d:Nat) (E:Int):Ending:=.returned (.tuple #[.agg #[.int .u64 i,.int .u64 r,.int .i64 nx,.int .i64 x,.int .i64 f,.int .u32 m,.slice q n d],.int .i64 E])
theorem ReadX.crit {w w':World} {i r nx x f m:Int} {rs:List Raw} {i' r' nx' x' f' m':Int} {q:Option Addr} {n d:Nat} {E:Int} (h:ReadX w i r nx x f m rs (msgRet i' r' nx' x' f' m' q n d E) w') (h6:errR rs=6):E=6:=by
 obtain ⟨-,⟨E1,-,-,he,h4⟩ | ⟨h0,-⟩⟩:=h
 ·have hE:E=E1:=by
   unfold msgRet at he
   injection he with he
   simp at he
   exact he.2
  rcases h4 with ⟨-,h5⟩ | ⟨h5,-⟩
  ·rw [hE,h5,h6]
  ·rw [h6] at h5;cases h5
 ·rw [h6] at h0;cases h0
theorem ReadX.same {w1 w2 w1' w2':World} {i r nx x f m:Int} {rs1 rs2:List Raw} {i1 r1 nx1 x1 f1 m1 i2 r2 nx2 x2 f2 m2:Int} {q1 q2:Option Addr} {n1 n2 d1 d2:Nat} {E1 E2:Int}
  (h1:ReadX w1 i r nx x f m rs1 (msgRet i1 r1 nx1 x1 f1 m1 q1 n1 d1 E1) w1') (h2:ReadX w2 i r nx x f m rs2 (msgRet i2 r2 nx2 x2 f2 m2 q2 n2 d2 E2) w2') (hE:errR rs1=errR rs2) (hK:knownR rs1=knownR rs2) (hk:Kpt w1' w2' w1.heap.size) (h10:rs1.length≤10) :
  (i1=i2∧r1=r2∧nx1=nx2∧x1=x2∧f1=f2∧m1=m2∧n1=n2∧E1=E2)∧n1≤1000∧∃ X:List (PZ × PZ),RdG KPv DPv w2' q1 n1 d1 (X.map (fun t=>t.1.1))∧RdG KPv DPv w2' q2 n1 d2 (X.map (fun t=>t.2.1))∧∀ t∈X,Twin w2' t:=by
 have hlen:E1=0→n1≤10:=fun h0=>by
  obtain ⟨-,⟨E3,h3,-,he,-⟩ | ⟨-,Y,q,d,he,-,hY,-⟩⟩:=h1
  ·unfold msgRet at he
   injection he with he
   simp at he
   omega
  ·unfold msgRet at he
   injection he with he
   simp at he
   have h5:=congrArg List.length hY
   have h6:(knownR rs1).length≤rs1.length:=List.length_filter_le _ _
   rw [List.length_map] at h5
   omega
 rcases ReadX.both h1 h2 hE hK hk with ⟨E,hE0,e1,e2⟩ | ⟨X,q,q',n,d,d',e1,e2,g1,g2,g3⟩
 ·unfold msgRet zeroRet at e1 e2
  injection e1 with e1
  injection e2 with e2
  simp at e1 e2
  obtain ⟨⟨rfl,rfl,rfl,rfl,rfl,rfl,rfl,rfl,rfl⟩,rfl⟩:=e1
  obtain ⟨⟨rfl,rfl,rfl,rfl,rfl,rfl,rfl,rfl,rfl⟩,rfl⟩:=e2
  exact ⟨⟨rfl,rfl,rfl,rfl,rfl,rfl,rfl,rfl⟩,by omega,[],⟨rfl,Nat.le_refl _,Nat.zero_le _,fun h=>by omega,fun x hx=>by cases hx⟩,⟨rfl,Nat.le_refl _,Nat.zero_le _,fun h=>by omega,fun x hx=>by cases hx⟩,fun t ht=>by cases ht⟩
 ·unfold msgRet okRet at e1 e2
  injection e1 with e1
  injection e2 with e2
  simp at e1 e2
  obtain ⟨⟨rfl,rfl,rfl,rfl,rfl,rfl,rfl,rfl,rfl⟩,rfl⟩:=e1
  obtain ⟨⟨rfl,rfl,rfl,rfl,rfl,rfl,rfl,rfl,rfl⟩,rfl⟩:=e2
  have:=hlen rfl
  exact ⟨⟨rfl,rfl,rfl,rfl,rfl,rfl,rfl,rfl⟩,by omega,X,g1,g2,g3⟩
theorem row_front (l:List RawP) (i:Nat):KRw.row l=KRw.row (l.take i)++KRw.row (l.drop i):=by rw [←KRw.row_append,List.take_append_drop]
theorem RdR.srcFront {w:World} {p:Option Addr} {n c:Nat} {l:List RawP} (h:RdR w p n c l) (i:Nat) (hi:i≤n):SrcG KRw w p i (l.take i) :=
 ⟨by rw [List.length_take,h.len];omega,fun h0=>by
  obtain ⟨g,rfl,hc⟩:=h.mem (by omega)
  refine ⟨_,rfl,fun j u hj=>?_⟩
  rw [WideShapes.add_plain,Nat.zero_add]
  refine hc j u ?_
  rw [←row_raw,row_front l i,List.getElem?_append_left (List.getElem?_eq_some_iff.1 hj).1]
  exact hj⟩
theorem RdR.srcBack {w:World} {g n c:Nat} {l:List RawP} (h:RdR w (some ⟨g,0,none⟩) n c l) (i:Nat) (hi:i≤n) (p:Option Addr) (hp:i<n→p=some ⟨g,i*3,none⟩):SrcG KRw w p (n - i) (l.drop i) :=
 ⟨by rw [List.length_drop,h.len],fun h0=>by
  obtain ⟨g',e,hc⟩:=h.mem (by omega)
  cases e
  refine ⟨_,hp (by omega),fun j u hj=>?_⟩
  rw [WideShapes.add_plain]
  refine hc (i*3+j) u ?_
  have hl:(KRw.row (l.take i)).length=i*3:=by rw [KRw.row_len,List.length_take,h.len,Nat.min_eq_left hi];rfl
  rw [←row_raw,row_front l i,List.getElem?_append_right (by omega),hl,Nat.add_sub_cancel_left]
  exact hj⟩
theorem RdR.kp {w w':World} {base:Nat} {p:Option Addr} {n c:Nat} {l:List RawP} (h:RdR w p n c l) (hb : ∀ g,0<n→p=some ⟨g,0,none⟩→base≤g) (hk:Kpt w w' base) (hd:BodR w' l):RdR w' p n c l :=
 ⟨h.len,h.cap,h.big,fun h0=>by
  obtain ⟨g,e,hc⟩:=h.mem h0
  exact ⟨g,e,fun j u hj=>hk _ _ (hb g h0 e) (hc j u hj)⟩,hd⟩
theorem BSt.rdr {w:World} {v:Value} {L:List RawP} {wr:World} {n:Nat} (h:BSt w v L wr) (hL:L.length=n) : ∃ p c,v=.slice p n c∧∀ W,Kpt wr W w.heap.size→RdR W p n c L:=by
 obtain ⟨p,c,e,hrd⟩:=rdr_of h.row hL h.bods
 refine ⟨p,c,e,fun W hW=>hrd.kp (fun g h0 hp=>?_) hW (fun y hy=>(h.el y hy).out hW)⟩
 subst e hp
 exact (h.row.lt g rfl).1
theorem Kpt.of_belowS {w w':World} (hb:Below w.heap.size w w') (base:Nat):Kpt w w' base:=fun a v _ hc=>cell_below hb a v hc
theorem raw_bod (w:World) (B:Nat) (z:Int) (hB:B≤w.heap.size) (hz:0≤z∧z≤255) (o:Obj):Bod ((w.alloc (.cells #[.int .u8 z] 5)).alloc o) B (some ⟨w.heap.size,0,none⟩) 1 1 [z] :=
 Bod.alloc ⟨one_byte _ _ _ hz ((cell_of_row _ _ _ _ _ _ (heap_alloc_new _ _)).trans rfl),fun _=>⟨w.heap.size,0,_,_,rfl,hB,heap_alloc_new w _⟩⟩ o
theorem SrcG.belowK {α:Type} {K:KindR α} {w w':World} {p:Option Addr} {m:Nat} {r:List α} (h:SrcG K w p m r) (hb:Below w.heap.size w w'):SrcG K w' p m r :=
 ⟨h.1,fun h0=>by
  obtain ⟨a,e,hc⟩:=h.2 h0
  exact ⟨a,e,fun j u hj=>cell_below hb _ _ (hc j u hj)⟩⟩
theorem srcRw (w:World) (k:Int) (c:Bool) (p:Option Addr) (n m:Nat) (b:List Int) (T:TypeId):SrcG KRw (w.alloc (.cells #[.int .i64 k,.bool c,.slice p n m] T)) (some ⟨w.heap.size,0,none⟩) 1 [⟨k,c,p,n,m,b⟩]:=SrcG.new KRw w [⟨k,c,p,n,m,b⟩] T
theorem rdr_more {w w':World} {B:Nat} {v:Value} {l:List RawP} {n:Nat} (h:RowG KRw NRw w' B v l) (hn:l.length=n) (hb : ∀ y∈l,Byt w y.p y.n y.m y.b) (hw:Below w.heap.size w w') : ∃ p c,v=.slice p n c∧RdR w' p n c l:=rdr_of h hn (fun y hy=>(hb y hy).below hw)
theorem errR_front : ∀ (l r:List Raw),errR (l++r)=0→errR l=0
 | [],_,_=>rfl
 | y :: l,r,h=>by
  rw [List.cons_append,errR] at h
  rw [errR]
  by_cases h1:knownK y.k=true
  ·rw [if_pos h1] at h ⊢
   by_cases h2:parseE y.k y.b≠0
   ·rw [if_pos h2] at h;exact absurd h h2
   ·rw [if_neg h2] at h ⊢
    exact errR_front l r h
  ·rw [if_neg h1] at h ⊢
   by_cases h2:y.c=true
   ·rw [if_pos h2] at h;cases h
   ·rw [if_neg h2] at h ⊢
    exact errR_front l r h
end Go.Proofs.YtgpigjoonhghhaaGreat

namespace Go.Proofs.YtgpigjoonhghhaaGreat
open Go.RowKit
set_option linter.unusedVariables false
set_option linter.unusedSimpArgs false
theorem RdG.pvAt {w:World} {p:Option Addr} {n c:Nat} {l:List Pv} (h:RdG KPv DPv w p n c l) (j:Nat) (hj:j<l.length) : ∃ g,p=some ⟨g,0,none⟩∧∀ i u,(KPv.cs (l[j]'hj))[i]?=some u→w.cell? ⟨g,j*16+i,none⟩=some u:=by
 obtain ⟨g,e,hc,hk⟩:=h.cell j hj
 exact ⟨g,e,hc⟩
set_option maxHeartbeats 3200000 in
set_option maxRecDepth 100000 in
theorem rpsameall (X:List (PZ × PZ)) (p q:Option Addr) (n c d:Nat) (w:World) (hp:RdG KPv DPv w p n c (X.map (fun t=>t.1.1))) (hq:RdG KPv DPv w q n d (X.map (fun t=>t.2.1))) (ht : ∀ t∈X,Twin w t) (hn:n≤1000) :
  Calls Tryz.prog 27 #[.slice p n c,.slice q n d] w fun e w'=>e=.returned (.bool true)∧Below w.heap.size w w':=by
 have HP:=hidden hp
 have HQ:=hidden hq
 have HT:=hidden ht
 have h1:=hp.len
 rw [List.length_map] at h1
 have h3:=hp.cap
 have h4:=hq.cap
 clear hp hq ht
 go_enter Tryz.func27,Tryz.ntmps27
 go_wp2
 go_loopw [5] (fun i wr=>∃ j:Nat,j≤n∧i=.int .i64 (j:Int)∧Below w.heap.size w wr) (fun i _=>n - (intOf i).toNat)
 case atStart=>exact ⟨0,by omega,rfl,Below.refl _ _⟩
 case round =>
  obtain ⟨j,hj,rfl,hb⟩:=hrel
  have HB:=hidden hb
  clear hb
  by_cases hjn:j<n
  ·obtain ⟨g,rfl,hca⟩:=(HP.out.below HB.out).pvAt j (by rw [List.length_map];omega)
   obtain ⟨g',rfl,hcb⟩:=(HQ.out.below HB.out).pvAt j (by rw [List.length_map];omega)
   have htw:=(HT.out _ (List.getElem_mem (show j<X.length by omega))).below HB.out
   simp only [List.getElem_map] at hca hcb
   generalize X[j]'(by omega)=t at *
   obtain ⟨⟨x,C⟩,⟨y,D⟩⟩:=t
   simp only at hca hcb
   obtain ⟨hx,hy,hs⟩:=htw
   simp only at hx hy hs
   have HSM:=hidden (fun W (hW:Below wr.heap.size wr W)=>(by
    have h9:=krsame_any x y C D W (hx.below hW) (hy.below hW)
    rw [hs] at h9
    exact h9:Calls Tryz.prog 51 #[(.agg #[.int .i64 x.t,.slice x.pr.p x.pr.n x.pr.c,.int .i64 x.eg,.slice x.ed.p x.ed.n x.ed.c,.int .i64 x.ik,.slice x.id.p x.id.n x.id.c,.int .i64 x.am,.slice x.ad.p x.ad.n x.ad.c,.int .i64 x.np,.slice x.ns.p x.ns.n x.ns.c,.int .i64 x.nt,.slice x.nd.p x.nd.n x.nd.c,.int .i64 x.dp,.slice x.ds.p x.ds.n x.ds.c,.slice x.se.p x.se.n x.se.c,.slice x.da.p x.da.n x.da.c]),(.agg #[.int .i64 y.t,.slice y.pr.p y.pr.n y.pr.c,.int .i64 y.eg,.slice y.ed.p y.ed.n y.ed.c,.int .i64 y.ik,.slice y.id.p y.id.n y.id.c,.int .i64 y.am,.slice y.ad.p y.ad.n y.ad.c,.int .i64 y.np,.slice y.ns.p y.ns.n y.ns.c,.int .i64 y.nt,.slice y.nd.p y.nd.n y.nd.c,.int .i64 y.dp,.slice y.ds.p y.ds.n y.ds.c,.slice y.se.p y.se.n y.se.c,.slice y.da.p y.da.n y.da.c])] W fun e w'=>e=.returned (.bool true)∧Below W.heap.size W w'))
   have HCA:=hidden hca
   have HCB:=hidden hcb
   clear hx hy hs hca hcb
   have hj1:(j:Int)<(n:Int):=by omega
   have hj0:(0:Int)≤(j:Int):=by omega
   go_upto_region 6 with fail
   have HBD:Hid (Below wr.heap.size wr wr.drew):=hidden (drew_below ⟨1,rfl⟩)
   refine region_C 8 (fun w'=>(∀ i u,(KPv.cs x)[i]?=some u→w'.cell? ⟨g,j*16+i,none⟩=some u)∧(∀ i u,(KPv.cs y)[i]?=some u→w'.cell? ⟨g',j*16+i,none⟩=some u)) (fun _=>True) (by kernel_rfl) ⟨fun i u hu=>cell_below HBD.out _ _ (HCA.out i u hu),fun i u hu=>cell_below HBD.out _ _ (HCB.out i u hu)⟩ trivial (fun hS0 _=>?_)
   refine anyC_take (i:=0) (v:=.slice (some ⟨g,0,none⟩) n c) rfl rfl (by decide) (by kernel_rfl) (by kernel_rfl) (by kernel_rfl) (fun _ _ _ h=>h) (Or.inl ⟨by rfl,fun w0 _=>by kernel_rfl⟩) hS0 (fun _=>trivial) ?_
   refine anyC_take (i:=1) (v:=.int .i64 (j:Int)) rfl rfl (by decide) (by kernel_rfl) (by kernel_rfl) (by kernel_rfl) (fun _ _ _ h=>h) (Or.inl ⟨by rfl,fun w0 _=>by kernel_rfl⟩) hS0 (fun _=>trivial) ?_
   refine anyC_take (i:=4) (v:=.slice (some ⟨g',0,none⟩) n d) rfl rfl (by decide) (by kernel_rfl) (by kernel_rfl) (by kernel_rfl) (fun _ _ _ h=>h) (Or.inl ⟨by rfl,fun w0 _=>by kernel_rfl⟩) hS0 (fun _=>trivial) ?_
   refine anyC_take (i:=5) (v:=.int .i64 (j:Int)) rfl rfl (by decide) (by kernel_rfl) (by kernel_rfl) (by kernel_rfl) (fun _ _ _ h=>h) (Or.inl ⟨by rfl,fun w0 _=>by kernel_rfl⟩) hS0 (fun _=>trivial) ?_
   (try simp only [Act.put,List.getElem_toArray,List.getElem_cons_zero,List.getElem_cons_succ,List.setIfInBounds_toArray,List.set_cons_zero,List.set_cons_succ])
   refine anyC_take (i:=2) (v:=.pointer (some ⟨g,j*16,none⟩)) rfl rfl (by decide) (by kernel_rfl) (by kernel_rfl) (by kernel_rfl) (fun _ _ _ h=>h) (Or.inl ⟨by rfl,fun w0 _=>by go_simp;(try with_reducible rfl)⟩) hS0 (fun _=>trivial) ?_
   refine anyC_take (i:=6) (v:=.pointer (some ⟨g',j*16,none⟩)) rfl rfl (by decide) (by kernel_rfl) (by kernel_rfl) (by kernel_rfl) (fun _ _ _ h=>h) (Or.inl ⟨by rfl,fun w0 _=>by go_simp;(try with_reducible rfl)⟩) hS0 (fun _=>trivial) ?_
   (try simp only [Act.put,List.getElem_toArray,List.getElem_cons_zero,List.getElem_cons_succ,List.setIfInBounds_toArray,List.set_cons_zero,List.set_cons_succ])
   refine anyC_take (i:=3) (v:=(.agg #[.int .i64 x.t,.slice x.pr.p x.pr.n x.pr.c,.int .i64 x.eg,.slice x.ed.p x.ed.n x.ed.c,.int .i64 x.ik,.slice x.id.p x.id.n x.id.c,.int .i64 x.am,.slice x.ad.p x.ad.n x.ad.c,.int .i64 x.np,.slice x.ns.p x.ns.n x.ns.c,.int .i64 x.nt,.slice x.nd.p x.nd.n x.nd.c,.int .i64 x.dp,.slice x.ds.p x.ds.n x.ds.c,.slice x.se.p x.se.n x.se.c,.slice x.da.p x.da.n x.da.c])) rfl rfl (by decide) (by kernel_rfl) (by kernel_rfl) (by kernel_rfl) (fun _ _ _ h=>h) (Or.inl ⟨by rfl,?_⟩) hS0 (fun _=>trivial) ?_
   ·rintro w0 ⟨hs,-⟩
    have c0:=hs 0 _ rfl
    have c1:=hs 1 _ rfl
    have c2:=hs 2 _ rfl
    have c3:=hs 3 _ rfl
    have c4:=hs 4 _ rfl
    have c5:=hs 5 _ rfl
    have c6:=hs 6 _ rfl
    have c7:=hs 7 _ rfl
    have c8:=hs 8 _ rfl
    have c9:=hs 9 _ rfl
    have c10:=hs 10 _ rfl
    have c11:=hs 11 _ rfl
    have c12:=hs 12 _ rfl
    have c13:=hs 13 _ rfl
    have c14:=hs 14 _ rfl
    have c15:=hs 15 _ rfl
    simp only [Nat.add_zero] at c0
    clear hs hS0 HCA HCB
    go_simp
    (try with_reducible rfl)
   refine anyC_take (i:=7) (v:=(.agg #[.int .i64 y.t,.slice y.pr.p y.pr.n y.pr.c,.int .i64 y.eg,.slice y.ed.p y.ed.n y.ed.c,.int .i64 y.ik,.slice y.id.p y.id.n y.id.c,.int .i64 y.am,.slice y.ad.p y.ad.n y.ad.c,.int .i64 y.np,.slice y.ns.p y.ns.n y.ns.c,.int .i64 y.nt,.slice y.nd.p y.nd.n y.nd.c,.int .i64 y.dp,.slice y.ds.p y.ds.n y.ds.c,.slice y.se.p y.se.n y.se.c,.slice y.da.p y.da.n y.da.c])) rfl rfl (by decide) (by kernel_rfl) (by kernel_rfl) (by kernel_rfl) (fun _ _ _ h=>h) (Or.inl ⟨by rfl,?_⟩) hS0 (fun _=>trivial) ?_
   ·rintro w0 ⟨-,hs⟩
    have c0:=hs 0 _ rfl
    have c1:=hs 1 _ rfl
    have c2:=hs 2 _ rfl
    have c3:=hs 3 _ rfl
    have c4:=hs 4 _ rfl
    have c5:=hs 5 _ rfl
    have c6:=hs 6 _ rfl
    have c7:=hs 7 _ rfl
    have c8:=hs 8 _ rfl
    have c9:=hs 9 _ rfl
    have c10:=hs 10 _ rfl
    have c11:=hs 11 _ rfl
    have c12:=hs 12 _ rfl
    have c13:=hs 13 _ rfl
    have c14:=hs 14 _ rfl
    have c15:=hs 15 _ rfl
    simp only [Nat.add_zero] at c0
    clear hs hS0 HCA HCB
    go_simp
    (try with_reducible rfl)
   (try simp only [Act.put,List.getElem_toArray,List.getElem_cons_zero,List.getElem_cons_succ,List.setIfInBounds_toArray,List.set_cons_zero,List.set_cons_succ])
   clear hS0
   obtain ⟨V0,hV0⟩ : ∃ V,V=wr.drew:=⟨_,rfl⟩
   rw [←hV0] at HBD ⊢
   clear hV0
   refine anyC_one (i:=8) (by kernel_rfl) rfl (fun K' hK=>?_)
   refine fl_call1 rfl (f:=51) (args:=#[(.agg #[.int .i64 x.t,.slice x.pr.p x.pr.n x.pr.c,.int .i64 x.eg,.slice x.ed.p x.ed.n x.ed.c,.int .i64 x.ik,.slice x.id.p x.id.n x.id.c,.int .i64 x.am,.slice x.ad.p x.ad.n x.ad.c,.int .i64 x.np,.slice x.ns.p x.ns.n x.ns.c,.int .i64 x.nt,.slice x.nd.p x.nd.n x.nd.c,.int .i64 x.dp,.slice x.ds.p x.ds.n x.ds.c,.slice x.se.p x.se.n x.se.c,.slice x.da.p x.da.n x.da.c]),(.agg #[.int .i64 y.t,.slice y.pr.p y.pr.n y.pr.c,.int .i64 y.eg,.slice y.ed.p y.ed.n y.ed.c,.int .i64 y.ik,.slice y.id.p y.id.n y.id.c,.int .i64 y.am,.slice y.ad.p y.ad.n y.ad.c,.int .i64 y.np,.slice y.ns.p y.ns.n y.ns.c,.int .i64 y.nt,.slice y.nd.p y.nd.n y.nd.c,.int .i64 y.dp,.slice y.ds.p y.ds.n y.ds.c,.slice y.se.p y.se.n y.se.c,.slice y.da.p y.da.n y.da.c])]) (R:=fun v w'=>v=.bool true∧Below wr.heap.size wr w') (by kernel_rfl) ((HSM.out V0 HBD.out).mono (by rintro e w' ⟨rfl,hb⟩;exact ⟨_,rfl,rfl,HBD.out.trans (hb.mono HBD.out.size)⟩)) ?_
   rintro v w' ⟨rfl,hb'⟩
   have HB':=hidden (HB.out.trans (hb'.mono HB.out.size))
   have hS:(∀ i u,(KPv.cs x)[i]?=some u→w'.cell? ⟨g,j*16+i,none⟩=some u)∧(∀ i u,(KPv.cs y)[i]?=some u→w'.cell? ⟨g',j*16+i,none⟩=some u):=⟨fun i u hu=>cell_below hb' _ _ (HCA.out i u hu),fun i u hu=>cell_below hb' _ _ (HCB.out i u hu)⟩
   refine hK.out _ _ hS (fun _=>trivial) ?_
   clear hK K' hb' HCA HCB HSM HBD
   (try simp only [Act.put,List.getElem_toArray,List.getElem_cons_zero,List.getElem_cons_succ,List.setIfInBounds_toArray,List.set_cons_zero,List.set_cons_succ])
   refine anyC_take (i:=9) (v:=.bool false) rfl rfl (by decide) (by kernel_rfl) (by kernel_rfl) (by kernel_rfl) (fun _ _ _ h=>h) (Or.inl ⟨by rfl,fun w0 _=>by kernel_rfl⟩) hS (fun _=>trivial) ?_
   clear hS
   (try simp only [Act.put,List.getElem_toArray,List.getElem_cons_zero,List.getElem_cons_succ,List.setIfInBounds_toArray,List.set_cons_zero,List.set_cons_succ])
   refine anyC_done (by kernel_rfl) ?_ _
   go_wp2
   go_roundw
   case rel=>exact ⟨j+1,by omega,by go_num,HB'.out⟩
   case measure=>simp [intOf]<;>omega
  ·obtain rfl:j=n:=by omega
   have hj1:¬ (j:Int)<(j:Int):=by omega
   clear HP HQ HT
   go_wp2
   go_ret
   exact ⟨rfl,HB.out⟩
set_option maxHeartbeats 3200000 in
set_option maxRecDepth 100000 in
theorem rmsame_yes (i r nx x f m:Int) (X:List (PZ × PZ)) (p q:Option Addr) (n c d:Nat) (w:World) (hp:RdG KPv DPv w p n c (X.map (fun t=>t.1.1))) (hq:RdG KPv DPv w q n d (X.map (fun t=>t.2.1))) (ht : ∀ t∈X,Twin w t) (hn:n≤1000) :
  Calls Tryz.prog 11 #[.agg #[.int .u64 i,.int .u64 r,.int .i64 nx,.int .i64 x,.int .i64 f,.int .u32 m,.slice p n c],.agg #[.int .u64 i,.int .u64 r,.int .i64 nx,.int .i64 x,.int .i64 f,.int .u32 m,.slice q n d]] w fun e w'=>e=.returned (.bool true)∧Below w.heap.size w w':=by
 have hA:Below w.heap.size w (w.alloc (.cells #[.int .u64 i,.int .u64 r,.int .i64 nx,.int .i64 x,.int .i64 f,.int .u32 m,.slice p n c] 32)):=(Below.refl _ _).alloc (Nat.le_refl _) _
 have HB2:=hidden (hA.alloc (by simp) (.cells #[.int .u64 i,.int .u64 r,.int .i64 nx,.int .i64 x,.int .i64 f,.int .u32 m,.slice q n d] 32))
 have HMA:=hidden ((MIn.new w i r nx x f m (.slice p n c) 32).below ((Below.refl _ _).alloc (Nat.le_refl _) (.cells #[.int .u64 i,.int .u64 r,.int .i64 nx,.int .i64 x,.int .i64 f,.int .u32 m,.slice q n d] 32)))
 have HMB:=hidden (MIn.new (w.alloc (.cells #[.int .u64 i,.int .u64 r,.int .i64 nx,.int .i64 x,.int .i64 f,.int .u32 m,.slice p n c] 32)) i r nx x f m (.slice q n d) 32)
 rw [World.size_alloc] at HMB
 have HSA:=hidden (fun W (hW:Below w.heap.size w W)=>rpsameall X p q n c d W (hp.below hW) (hq.below hW) (fun t h=>(ht t h).below hW) hn)
 clear hA hp hq ht
 go_enter Tryz.func11,Tryz.ntmps11
 go_upto_region 1 with fail
 generalize World.alloc (World.alloc w _) _=w1 at *
 obtain ⟨a0,a1,a2,a3,a4,a5,a6,-⟩:=HMA.out
 obtain ⟨b0,b1,b2,b3,b4,b5,b6,-⟩:=HMB.out
 clear HMA HMB
 go_wp2_with (first
  | (go_at_call 27;(with_reducible refine (HSA.out _ HB2.out).mono ?_);rintro e w2 ⟨rfl,hb⟩;have HB3:=hidden (HB2.out.trans (hb.mono HB2.out.size));clear hb)
  | fail)
 go_ret
 exact ⟨rfl,HB3.out⟩
end Go.Proofs.YtgpigjoonhghhaaGreat
