/-
 What package proposal's Check of one proposal, and of all, returns.
 What package selector reads of the beginning of some bytes.
 Package payload's Parse, given what the reader of the type returns.
 Whether a list of SPIs has one twice: the document's way, and the program's words.
 A notification in memory of its own (message.copiedNote).
 A map of the call's own from ints to bools that holds just those of a list.
 Whether a message tells of an error (message.fails).
 What chain.Build returns: the bytes of the payloads, or the first error.
-/
import Derived.Test.YtgpigjoonhghhaaGreatQZ4
import Derived.Test.YtgpigjoonhghhaaGreatQZ2
import Derived.Test.YtgpigjoonhghhaaGreatQZ9
import Derived.Test.YtgpigjoonhghhaaGreatQZ1
import Derived.Test.YtgpigjoonhghhaaGreatQZ17
import Derived.Deep.Cut
import Derived.Deep.CutRange
import Derived.Deep.RegionHeld3
import Derived.Deep.RegionWith
import Derived.Deep.CutBlock
import Derived.Maps.OwnOps
import Derived.Maps.Views
import Derived.Deep.RegionLaw
namespace Go.Proofs.YtgpigjoonhghhaaGreat
open Go.RowKit
set_option linter.unusedVariables false
set_option maxHeartbeats 1600000 in
set_option maxRecDepth 100000 in
theorem checkOne_any (x:PrP) (k:Int) (w:World) (h:OkD w x) :
  Calls Tryz.prog 121 #[.agg #[.int .i64 x.n,.int .i64 x.p,.slice x.sp x.sn x.sc,.slice x.tp x.tn x.tc],.int .i64 k] w (ErrNew w (errPr x.pr k)):=by
 obtain ⟨E,hE⟩ : ∃ E,errPr x.pr k=E:=⟨_,rfl⟩
 rw [hE]
 unfold errPr PrP.pr at hE
 simp only at hE
 have hs:x.s.length=x.sn:=h.s.len
 have ht:x.ts.length=x.tn:=h.ts.len
 rw [hs,ht] at hE
 have hsn:=h.s.le
 have htn:=h.ts.le
 have HT:=hidden h.ts
 have HE:=hidden hE
 clear h hE hs
 obtain ⟨n,p,sp,sn,sc,s,tp,tn,tc,ts⟩:=x
 simp only at *
 have HTL:=hidden ht
 clear ht
 by_cases h1:n≠k
 ·have hE:=HE.out
  rw [if_pos h1] at hE
  have h1':(n != k)=true:=by simpa using h1
  go_enter Tryz.func121,Tryz.ntmps121
  go_wp2
  go_ret
  subst hE
  exact ⟨rfl,(Below.refl _ w).alloc (Nat.le_refl _) _⟩
 obtain rfl:n=k:=by omega
 by_cases h2:p<1∨3<p
 ·have p1:(p != 1)=true:=by simp;omega
  have p2:(p != 2)=true:=by simp;omega
  have p3:(p != 3)=true:=by simp;omega
  have hE:=HE.out
  rw [if_neg h1,if_pos h2] at hE
  clear h2
  go_enter Tryz.func121,Tryz.ntmps121
  go_wp2
  go_ret
  subst hE
  exact ⟨rfl,(Below.refl _ w).alloc (Nat.le_refl _) _⟩
 have hE0:=HE.out
 rw [if_neg h1,if_neg h2] at hE0
 have HE0:=hidden hE0
 clear hE0 HE
 obtain ⟨b,hb⟩ : ∃ b:Bool,b=true↔(p=1∧(sn=0∨sn=8))∨(p≠1∧sn=4):=⟨decide ((p=1∧(sn=0∨sn=8))∨(p≠1∧sn=4)),by rw [decide_eq_true_iff]⟩
 have HB:=hidden hb
 have HS:=hidden (fun w=>isSpi_any p sn w b hb)
 have hp:p=1∨p=2∨p=3:=by omega
 clear h2 hb
 cases b with
 | false =>
  have hE:=HE0.out
  have hB:=HB.out
  simp at hB
  rw [if_pos (by omega)] at hE
  have HE5:=hidden hE
  clear hE HE0 HB hB
  rcases hp with rfl | rfl | rfl
  all_goals
   go_enter Tryz.func121,Tryz.ntmps121
   go_wp2_with (go_at_call 127;(with_reducible refine (HS.out _).mono ?_);rintro e w1 ⟨rfl,rfl⟩)
   go_ret
   have hE:=HE5.out
   subst hE
   exact ⟨rfl,(Below.refl _ w).alloc (Nat.le_refl _) _⟩
 | true =>
  have hE:=HE0.out
  have hB:=HB.out
  simp at hB
  rw [if_neg (by omega)] at hE
  have HE1:=hidden hE
  clear hE HE0 HB hB
  rcases hp with rfl | rfl | rfl
  all_goals
   by_cases h7:tn=0
   ·have hE:=HE1.out
    rw [if_pos h7] at hE
    subst h7
    go_enter Tryz.func121,Tryz.ntmps121
    go_wp2_with (go_at_call 127;(with_reducible refine (HS.out _).mono ?_);rintro e w1 ⟨rfl,rfl⟩)
    go_ret
    subst hE
    exact ⟨rfl,(Below.refl _ w).alloc (Nat.le_refl _) _⟩
   by_cases h8:24<tn
   ·have hE:=HE1.out
    rw [if_neg h7,if_pos h8] at hE
    have h7':((tn:Int) == 0)=false:=by simp;omega
    go_enter Tryz.func121,Tryz.ntmps121
    go_wp2_with (go_at_call 127;(with_reducible refine (HS.out _).mono ?_);rintro e w1 ⟨rfl,rfl⟩)
    go_ret
    subst hE
    exact ⟨rfl,(Below.refl _ w).alloc (Nat.le_refl _) _⟩
   have hE:=HE1.out
   rw [if_neg h7,if_neg h8] at hE
   have HEL:=hidden hE
   have h7':((tn:Int) == 0)=false:=by simp;omega
   clear hE HE1
   go_enter Tryz.func121,Tryz.ntmps121
   go_wp2_with (go_at_call 127;(with_reducible refine (HS.out _).mono ?_);rintro e w1 ⟨rfl,rfl⟩)
   go_loopw [47] (fun i wr=>∃ j:Nat,j≤tn∧i=.int .i64 j∧errTrs (ts.take j) (ts.drop j)=E∧wr.cell? ⟨w.heap.size,3,none⟩=some (.slice tp tn tc)∧Below w.heap.size w wr) (fun i _=>tn - (intOf i).toNat)
   case atStart=>exact ⟨0,by omega,rfl,by simpa using HEL.out,by go_simp,(Below.refl _ w).alloc (Nat.le_refl _) _⟩
   case round =>
    obtain ⟨j,hj,rfl,herr,hbox,hbel⟩:=hrel
    have HBL:=hidden hbel
    have HBX:=hidden hbox
    by_cases hlt:¬ j<tn
    ·obtain rfl:j=tn:=by omega
     rw [List.drop_of_length_le (by rw [HTL.out];exact Nat.le_refl _),errTrs] at herr
     have HER:=hidden herr
     clear herr hbel
     go_wp2
     go_ret
     have hE:=HER.out
     subst hE
     exact ⟨rfl,HBL.out⟩
    replace hlt:j<tn:=by omega
    have hlt':(j:Int)<tn:=by omega
    have htj:=HT.out.below hbel
    obtain ⟨g,rfl,hc,hint⟩:=htj.cell j (by rw [HTL.out];exact hlt)
    have HTJ:=hidden htj
    have hcap:j≤tc:=by have:=htj.cap;omega
    have hst:=errTrs_step ts j (by rw [HTL.out];exact hlt)
    rw [herr] at hst
    obtain ⟨y,hy⟩ : ∃ y,ts[j]'(by rw [HTL.out];exact hlt)=y:=⟨_,rfl⟩
    rw [hy] at hst hc hint
    obtain ⟨t,i,kk⟩:=y
    have c0:=hc 0 _ rfl
    have c1:=hc 1 _ rfl
    have c2:=hc 2 _ rfl
    simp only [KTr,Nat.add_zero] at c0 c1 c2
    have HST:=hidden hst
    clear hst herr hbel hc hy hint htj
    simp only at HST
    have HBA:Hid (Below w.heap.size w (wr.alloc (.cells #[.int .i64 t,.int .i64 i,.int .i64 kk] 118))):=hidden (HBL.out.alloc HBL.out.size _)
    by_cases hbad:t<1∨5<t∨i<0∨65535<i∨kk<0∨65535<kk
    ·have hE:=HST.out
     rw [if_pos hbad] at hE
     have HE9:=hidden hE
     have HC:=hidden (fun w=>inRange_no t i kk w hbad)
     clear hE HST hbad
     go_wp2_with (go_at_call 128;(with_reducible refine (HC.out _).mono ?_);rintro e w1 ⟨rfl,hb1⟩)
     go_ret
     have hE:=HE9.out
     subst hE
     exact ⟨rfl,HBA.out.trans (hb1.mono HBA.out.size)⟩
    have hst:=HST.out
    rw [if_neg hbad] at hst
    have HS2:=hidden hst
    have HC:=hidden (fun w=>inRange_yes t i kk w hbad)
    have hbx:=HBX.out
    clear hst HST hbad
    go_wp2_with fail
    go_at_call 128
    (with_reducible refine (HC.out _).mono ?_)
    rintro e w1 ⟨rfl,hb1⟩
    have hB1:=HBA.out.trans (hb1.mono HBA.out.size)
    have hb0:=((Below.refl wr.heap.size wr).alloc (Nat.le_refl _) (.cells #[.int .i64 t,.int .i64 i,.int .i64 kk] 118)).trans (hb1.mono (by simp))
    have d3:=cell_below hb0 _ _ HBX.out
    have e0:=cell_below hb1 ⟨wr.heap.size,0,none⟩ (.int .i64 t) (World.cell?_alloc_at _ _ _ _ rfl)
    have e1:=cell_below hb1 ⟨wr.heap.size,1,none⟩ (.int .i64 i) (World.cell?_alloc_at _ _ _ _ rfl)
    have e2:=cell_below hb1 ⟨wr.heap.size,2,none⟩ (.int .i64 kk) (World.cell?_alloc_at _ _ _ _ rfl)
    obtain ⟨bc,hbc⟩ : ∃ b:Bool,b=true↔(⟨t,i,kk⟩:Tr)∈ts.take j:=⟨decide ((⟨t,i,kk⟩:Tr)∈ts.take j),by rw [decide_eq_true_iff]⟩
    have HBC:=hidden hbc
    have htk:=(HTJ.out.below hb0).front j (by omega)
    have HTK:Hid (RdG KTr DTr w1.drew (some ⟨g,0,none⟩) j tc (ts.take j)):=hidden (htk.below (drew_below ⟨1,rfl⟩))
    have HCT:=hidden (contains_any _ _ _ _ w1.drew HTK.out t i kk bc hbc)
    have HB1:=hidden hB1
    have HD3:=hidden d3
    clear hB1 hb0 hb1 hbc htk hbx c0 c1 c2
    go_wp2_with fail
    go_region_law ((go_simp;go_at_call 129;(with_reducible refine (HCT.out).mono ?_);rintro e wA ⟨rfl,hbA⟩))
    all_goals
     have HBW:=hidden (HB1.out.trans ((drew_below (B:=w.heap.size) (w:=w1) (w':=w1.drew) ⟨1,rfl⟩).trans (hbA.mono (by have:=HB1.out.size;simpa using this))))
     have HDW:=hidden (cell_below (drew_below (B:=w1.heap.size) (w:=w1) (w':=w1.drew) ⟨1,rfl⟩) _ _ HD3.out)
     have HDX:=hidden (cell_below hbA _ _ HDW.out)
     clear hbA
     cases bc with
     | true =>
      have hE:=HS2.out
      rw [if_pos (HBC.out.1 rfl)] at hE
      have HE9:=hidden hE
      clear hE HS2
      go_wp2
      go_ret
      have hE:=HE9.out
      subst hE
      exact ⟨rfl,HBW.out⟩
     | false =>
      have hE:=HS2.out
      rw [if_neg (fun h=>by have:=HBC.out.2 h;cases this)] at hE
      have HE9:=hidden hE
      clear hE HS2
      go_wp2
      go_roundw
      case rel=>exact ⟨j+1,by omega,by go_num,HE9.out.symm,HDX.out,HBW.out⟩
      case measure=>simp [intOf];omega
end Go.Proofs.YtgpigjoonhghhaaGreat

namespace Go.Proofs.YtgpigjoonhghhaaGreat
open Go.RowKit
set_option linter.unusedVariables false
theorem numR_bd (xs:List Int) (hr : ∀ x∈xs,0≤x∧x≤255) (a k:Int):0≤(numR xs a k).1∧(numR xs a k).1≤18446744073709551615:=by
 unfold numR
 split
 ·rename_i h
  have hb:=val_bd ((xs.drop a.toNat).take k.toNat) (rng_take (rng_drop hr _) _)
  have hl:((xs.drop a.toNat).take k.toNat).length≤8:=by simp;omega
  have h8:=pow256_le hl
  have e:(256:Int) ^ 8=18446744073709551616:=by decide
  rw [e] at h8
  simp only
  omega
 ·simp
theorem numR_two (xs:List Int) (hr : ∀ x∈xs,0≤x∧x≤255) (a k:Int) (hk:k≤2):(numR xs a k).1≤65535:=by
 unfold numR
 split
 ·rename_i h
  have hb:=val_bd ((xs.drop a.toNat).take k.toNat) (rng_take (rng_drop hr _) _)
  have hl:((xs.drop a.toNat).take k.toNat).length≤2:=by simp;omega
  have h8:=pow256_le hl
  have e:(256:Int) ^ 2=65536:=by decide
  rw [e] at h8
  simp only
  omega
 ·simp
theorem numR_in (xs:List Int) (a k:Nat) (h1:1≤k) (h8:k≤8) (h:a+k≤xs.length):numR xs a k=(nAt xs a k,true):=by
 unfold numR nAt
 rw [if_pos (by omega)]
 rfl
theorem nAt_one (xs:List Int) (a:Nat) (h:a<xs.length):nAt xs a 1=xs.getD a 0:=by
 unfold nAt
 rw [List.drop_eq_getElem_cons h,List.take_succ_cons,List.take_zero,List.getD_eq_getElem?_getD,List.getElem?_eq_getElem h]
 show (0:Int)*256+xs[a]=xs[a]
 omega
theorem oneS_num (xs:List Int) (K Z:Int) (hK:(numR xs 0 1).1=K) (hZ:(numR xs 2 2).1=Z) :
  oneS xs=if K=7∧Z=16∧16≤xs.length then some (⟨nAt xs 1 1,nAt xs 4 2,nAt xs 6 2,⟨4,0,nAt xs 8 4⟩,⟨4,0,nAt xs 12 4⟩⟩,16)
   else if K=8∧Z=40∧40≤xs.length then some (⟨nAt xs 1 1,nAt xs 4 2,nAt xs 6 2,⟨6,nAt xs 8 8,nAt xs 16 8⟩,⟨6,nAt xs 24 8,nAt xs 32 8⟩⟩,40)
   else none:=by
 unfold oneS
 by_cases h:xs.length<8
 ·rw [if_pos h,if_neg (by omega),if_neg (by omega)]
 ·rw [if_neg h]
  have h0:=numR_in xs 0 1 (by omega) (by omega) (by omega)
  have h2:=numR_in xs 2 2 (by omega) (by omega) (by omega)
  rw [show ((0:Nat):Int)=0 from rfl,show ((1:Nat):Int)=1 from rfl] at h0
  rw [show ((2:Nat):Int)=2 from rfl] at h2
  rw [h0] at hK
  rw [h2] at hZ
  simp only at hK hZ
  rw [←nAt_one xs 0 (by omega),←nAt_one xs 1 (by omega),hK,hZ]
theorem snum_any (p:Option Addr) (n c:Nat) (xs:List Int) (w:World) (h:Byt w p n c xs) (a k:Int) (ha : -9223372036854775808≤a∧a≤9223372036854775807) (hk:0≤k∧k≤2) (v:Int) (hv:(numR xs a k).1=v) :
  Calls Tryz.prog 130 #[.slice p n c,.int .i64 a,.int .i64 k] w fun e w'=>e=.returned (.int .i64 v)∧w=w':=by
 have HN:=hidden (number_any p n c xs w h a k ha (by omega))
 have b1:=numR_bd xs h.rng a k
 have b2:=numR_two xs h.rng a k hk.2
 rw [hv] at b1 b2
 obtain ⟨v',ok,hr⟩ : ∃ v' ok,numR xs a k=(v',ok):=⟨_,_,rfl⟩
 rw [hr] at hv
 obtain rfl:v'=v:=hv
 rw [hr] at HN
 have hw:IntKind.i64.wrap v'=v':=by rw [IntKind.wrap_i64];omega
 clear h hr
 go_enter Tryz.func130,Tryz.ntmps130
 go_wp2_with (first
  | (go_at_call 79;(with_reducible refine (HN.out).mono ?_);rintro e w' ⟨rfl,rfl⟩)
  | fail)
 go_ret
 exact ⟨rfl,rfl⟩
theorem num_b (p:Option Addr) (n c:Nat) (xs:List Int) (w:World) (h:Byt w p n c xs) (a k:Nat) (A K:Int) (hA:A=a) (hK:K=k) (h1:1≤k) (h8:k≤8) (hin:a+k≤n) :
  Calls Tryz.prog 79 #[.slice p n c,.int .i64 A,.int .i64 K] w fun e w'=>e=.returned (.tuple #[.int .u64 (nAt xs a k),.bool true])∧w=w':=by
 subst hA hK
 exact number_yes p n c xs w h a k h1 h8 hin
theorem read4_any (p:Option Addr) (n c:Nat) (xs:List Int) (w:World) (h:Byt w p n c xs) (a:Nat) (A:Int) (hA:A=a) (hin:a+4≤n) :
  Calls Tryz.prog 131 #[.slice p n c,.int .i64 A] w fun e w'=>e=.returned (.agg #[.int .i64 4,.int .u64 0,.int .u64 (nAt xs a 4)])∧Below w.heap.size w w':=by
 subst hA
 have hn:=h.le
 have HN:=hidden (num_b p n c xs _ (h.alloc (.cells #[.int .i64 0,.int .u64 0,.int .u64 0] 120)) a 4 a 4 rfl rfl (by omega) (by omega) (by omega))
 have HB:=hidden ((Below.refl w.heap.size w).alloc (Nat.le_refl _) (.cells #[.int .i64 0,.int .u64 0,.int .u64 0] 120))
 clear h
 go_enter Tryz.func131,Tryz.ntmps131
 go_wp2_with (first
  | (go_at_call 79;(with_reducible refine (HN.out).mono ?_);rintro e w' ⟨rfl,rfl⟩)
  | fail)
 refine ret_ad (g:=w.heap.size) (x:=⟨4,0,nAt xs a 4⟩) rfl rfl rfl (AdIn.new w ⟨4,0,nAt xs a 4⟩ _) ?_
 exact ⟨rfl,(Below.refl w.heap.size w).alloc (Nat.le_refl _) _⟩
theorem read6_any (p:Option Addr) (n c:Nat) (xs:List Int) (w:World) (h:Byt w p n c xs) (a:Nat) (A:Int) (hA:A=a) (hin:a+16≤n) :
  Calls Tryz.prog 132 #[.slice p n c,.int .i64 A] w fun e w'=>e=.returned (.agg #[.int .i64 6,.int .u64 (nAt xs a 8),.int .u64 (nAt xs (a+8) 8)])∧Below w.heap.size w w':=by
 subst hA
 have hn:=h.le
 have HN:=hidden (num_b p n c xs _ (h.alloc (.cells #[.int .i64 0,.int .u64 0,.int .u64 0] 120)) a 8 a 8 rfl rfl (by omega) (by omega) (by omega))
 have HM:=hidden (num_b p n c xs _ (h.alloc (.cells #[.int .i64 0,.int .u64 0,.int .u64 0] 120)) (a+8) 8 ((a:Int)+8) 8 (by omega) rfl (by omega) (by omega) (by omega))
 have hw:IntKind.i64.wrap ((a:Int)+8)=(a:Int)+8:=by rw [IntKind.wrap_i64];omega
 clear h
 go_enter Tryz.func132,Tryz.ntmps132
 go_wp2_with (first
  | (go_at_call 79;(first | (with_reducible refine (HN.out).mono ?_) | (with_reducible refine (HM.out).mono ?_));rintro e w' ⟨rfl,rfl⟩)
  | fail)
 refine ret_ad (g:=w.heap.size) (x:=⟨6,nAt xs a 8,nAt xs (a+8) 8⟩) rfl rfl rfl (AdIn.new w ⟨6,nAt xs a 8,nAt xs (a+8) 8⟩ _) ?_
 exact ⟨rfl,(Below.refl w.heap.size w).alloc (Nat.le_refl _) _⟩
end Go.Proofs.YtgpigjoonhghhaaGreat

namespace Go.Proofs.YtgpigjoonhghhaaGreat
open Go.RowKit
set_option linter.unusedVariables false
structure Gd where
 ok:Nat→World→Pv→Prop
 keep : ∀ {base:Nat} {w w':World} {x:Pv},ok base w x→(∀ a v,base≤a.block→w.cell? a=some v→w'.cell? a=some v)→ok base w' x
 mono : ∀ {base base':Nat} {w:World} {x:Pv},ok base w x→base'≤base→ok base' w x
 ty : ∀ {base:Nat} {w:World} {x:Pv} (z:Int),ok base w x→ok base w { x with t:=z }
theorem Frs.keep {w w':World} {base:Nat} {p:Option Addr} {n c:Nat} {xs:List Int} (h:Frs w base p n c xs) (hk : ∀ a v,base≤a.block→w.cell? a=some v→w'.cell? a=some v):Frs w' base p n c xs :=
 ⟨⟨h.byt.len,h.byt.cap,h.byt.big,h.byt.rng,fun hn=>by
  obtain ⟨b,o,e,hc⟩:=h.byt.mem hn
  obtain ⟨b',o',e',hb⟩:=h.own (by have:=h.byt.len;omega)
  rw [e] at e'
  injection e' with e'
  injection e' with e1 e2
  subst e1
  exact ⟨b,o,e,fun i hi=>hk _ _ hb (hc i hi)⟩⟩,h.own⟩
def gdData (xs:List Int):Gd where
 ok base w x:=FrV w base x.da xs
 keep h hk:=Frs.keep h hk
 mono h hb:=Frs.mono h hb
 ty _ h:=h
def gdIdent (xs:List Int):Gd where
 ok base w x:=x.ik=nthB xs 0∧FrV w base x.id (xs.drop 4)
 keep h hk:=⟨h.1,Frs.keep h.2 hk⟩
 mono h hb:=⟨h.1,Frs.mono h.2 hb⟩
 ty _ h:=h
def ParsedV (w:World) (k E:Int) (G:Gd) (e:Ending) (w':World):Prop:=∃ x:Pv,e=.returned (.tuple #[(.agg #[.int .i64 x.t,.slice x.pr.p x.pr.n x.pr.c,.int .i64 x.eg,.slice x.ed.p x.ed.n x.ed.c,.int .i64 x.ik,.slice x.id.p x.id.n x.id.c,.int .i64 x.am,.slice x.ad.p x.ad.n x.ad.c,.int .i64 x.np,.slice x.ns.p x.ns.n x.ns.c,.int .i64 x.nt,.slice x.nd.p x.nd.n x.nd.c,.int .i64 x.dp,.slice x.ds.p x.ds.n x.ds.c,.slice x.se.p x.se.n x.se.c,.slice x.da.p x.da.n x.da.c]),.int .i64 E])∧Below w.heap.size w w'∧((E=0∧x.t=k∧G.ok w.heap.size w' x)∨(E≠0∧x=zeroP))
end Go.Proofs.YtgpigjoonhghhaaGreat

namespace Go.Proofs.YtgpigjoonhghhaaGreat
open Go.RowKit
set_option linter.unusedVariables false
def Dup {α:Type}:List α→Prop
 | []=>False
 | y :: l=>y∈l∨Dup l
theorem dup_map {α β:Type} (f:α→β) : ∀ (l:List α),(∀ x∈l,∀ y∈l,f x=f y→x=y)→(Dup (l.map f)↔Dup l):=by
 intro l
 induction l with
 | nil=>intro _;exact Iff.rfl
 | cons y l ih =>
  intro h
  show f y∈l.map f∨Dup (l.map f)↔y∈l∨Dup l
  rw [ih (fun x hx z hz=>h x (List.mem_cons_of_mem _ hx) z (List.mem_cons_of_mem _ hz)),List.mem_map]
  constructor
  ·rintro (⟨z,hz,e⟩ | h2)
   ·have:=h z (List.mem_cons_of_mem _ hz) y (List.mem_cons_self) e
    subst this
    exact Or.inl hz
   ·exact Or.inr h2
  ·rintro (hz | h2)
   ·exact Or.inl ⟨y,hz,rfl⟩
   ·exact Or.inr h2
theorem dup_iff {α:Type} : ∀ (l:List α),Dup l↔∃ a b:Nat,a<b∧b<l.length∧l[a]?=l[b]?:=by
 intro l
 induction l with
 | nil=>exact ⟨fun h=>h.elim,fun ⟨a,b,_,h,_⟩=>by simp at h⟩
 | cons y l ih =>
  show y∈l∨Dup l↔_
  rw [ih]
  constructor
  ·rintro (h | ⟨a,b,h1,h2,h3⟩)
   ·obtain ⟨j,hj,e⟩:=List.mem_iff_getElem.1 h
    exact ⟨0,j+1,by omega,by simp;omega,by rw [List.getElem?_cons_zero,List.getElem?_cons_succ,List.getElem?_eq_getElem hj,e]⟩
   ·exact ⟨a+1,b+1,by omega,by simp;omega,by rw [List.getElem?_cons_succ,List.getElem?_cons_succ,h3]⟩
  ·rintro ⟨a,b,h1,h2,h3⟩
   obtain ⟨b,rfl⟩ : ∃ b',b=b'+1:=⟨b - 1,by omega⟩
   rw [List.getElem?_cons_succ] at h3
   have hb:b<l.length:=by simpa using h2
   cases a with
   | zero =>
    rw [List.getElem?_cons_zero,List.getElem?_eq_getElem hb] at h3
    exact Or.inl (by injection h3 with e;rw [e];exact List.getElem_mem hb)
   | succ a =>
    rw [List.getElem?_cons_succ] at h3
    exact Or.inr ⟨a,b,by omega,hb,h3⟩
theorem twiceW_iff : ∀ (l:List (List Int)) (ts:List Int),twiceW ts l=true↔(∃ y∈l,wordOf y∈ts)∨Dup (l.map wordOf):=by
 intro l
 induction l with
 | nil=>intro ts;simp [twiceW,Dup]
 | cons y l ih =>
  intro ts
  show (decide (wordOf y∈ts) || twiceW (ts++[wordOf y]) l)=true↔(∃ z∈y :: l,wordOf z∈ts)∨(wordOf y∈l.map wordOf∨Dup (l.map wordOf))
  rw [Bool.or_eq_true,decide_eq_true_eq,ih]
  constructor
  ·rintro (h | ⟨z,hz,h⟩ | h)
   ·exact Or.inl ⟨y,List.mem_cons_self,h⟩
   ·rcases List.mem_append.1 h with h | h
    ·exact Or.inl ⟨z,List.mem_cons_of_mem _ hz,h⟩
    ·rw [List.mem_singleton] at h
     exact Or.inr (Or.inl (List.mem_map.2 ⟨z,hz,h⟩))
   ·exact Or.inr (Or.inr h)
  ·rintro (⟨z,hz,h⟩ | h | h)
   ·rcases List.mem_cons.1 hz with rfl | hz
    ·exact Or.inl h
    ·exact Or.inr (Or.inl ⟨z,hz,List.mem_append_left _ h⟩)
   ·obtain ⟨z,hz,e⟩:=List.mem_map.1 h
    exact Or.inr (Or.inl ⟨z,hz,List.mem_append_right _ (by rw [List.mem_singleton];exact e)⟩)
   ·exact Or.inr (Or.inr h)
theorem val_inj : ∀ (l m:List Int),l.length=m.length→(∀ x∈l,0≤x∧x≤255)→(∀ x∈m,0≤x∧x≤255)→val l=val m→l=m:=by
 intro l
 induction l with
 | nil=>intro m hl _ _ _;exact (List.eq_nil_of_length_eq_zero hl.symm).symm
 | cons x l ih =>
  intro m hl h1 h2 hv
  cases m with
  | nil=>simp at hl
  | cons y m =>
   have hl':l.length=m.length:=by simpa using hl
   rw [val_cons,val_cons,hl'] at hv
   have b1:=val_bd l (fun z hz=>h1 z (List.mem_cons_of_mem _ hz))
   have b2:=val_bd m (fun z hz=>h2 z (List.mem_cons_of_mem _ hz))
   rw [hl'] at b1
   generalize (256:Int) ^ m.length=P at *
   have hP:0<P:=by omega
   have hxy:x=y:=by
    rcases Int.lt_trichotomy x y with h | h | h
    ·have:(x+1)*P≤y*P:=Int.mul_le_mul_of_nonneg_right (by omega) (by omega)
     rw [Int.add_mul] at this
     omega
    ·exact h
    ·have:(y+1)*P≤x*P:=Int.mul_le_mul_of_nonneg_right (by omega) (by omega)
     rw [Int.add_mul] at this
     omega
   subst hxy
   rw [ih m hl' (fun z hz=>h1 z (List.mem_cons_of_mem _ hz)) (fun z hz=>h2 z (List.mem_cons_of_mem _ hz)) (by omega)]
theorem twiceW_dup (l:List (List Int)) (h4 : ∀ y∈l,y.length=4) (hr : ∀ y∈l,∀ x∈y,0≤x∧x≤255):twiceW [] l=true↔Dup l:=by
 rw [twiceW_iff]
 have e:(∃ y∈l,wordOf y∈([]:List Int))↔False:=⟨fun ⟨y,_,h⟩=>by simp at h,fun h=>h.elim⟩
 rw [e,false_or]
 refine dup_map wordOf l (fun x hx y hy he=>?_)
 have w : ∀ z,z.length=4→wordOf z=val z:=fun z hz=>by
  unfold wordOf numR
  rw [hz,if_pos (by omega)]
  simp
  rw [List.take_of_length_le (by omega)]
 rw [w x (h4 x hx),w y (h4 y hy)] at he
 exact val_inj x y (by rw [h4 x hx,h4 y hy]) (hr x hx) (hr y hy) he
def TwiceR (w:World) (D:Prop) (e:Ending) (w':World):Prop:=∃ r:Bool,e=.returned (.bool r)∧(r=true↔D)∧Below w.heap.size w w'
theorem twiceR_yes {w w':World} {D:Prop} (h:D) (hb:Below w.heap.size w w'):TwiceR w D (.returned (.bool true)) w':=⟨true,rfl,⟨fun _=>h,fun _=>rfl⟩,hb⟩
theorem twiceR_no {w w':World} {D:Prop} (h:¬ D) (hb:Below w.heap.size w w'):TwiceR w D (.returned (.bool false)) w':=⟨false,rfl,⟨fun e=>(by cases e),fun d=>absurd d h⟩,hb⟩
set_option maxHeartbeats 3200000 in
set_option maxRecDepth 100000 in
theorem rtwice_any (p:Option Addr) (n c:Nat) (l:List Sb) (w:World) (h:RdG KSb DSb w p n c l) :
  Calls Tryz.prog 61 #[.slice p n c] w (TwiceR w (Dup (l.map Sb.xs))):=by
 have H:=hidden h
 have hlen:=h.len
 have hle:=h.le
 have hdi:=dup_iff (l.map Sb.xs)
 rw [List.length_map,hlen] at hdi
 have HYES:=hidden (fun a b h1 h2 h3=>hdi.2 ⟨a,b,h1,h2,h3⟩)
 have HNOT:Hid ((∀ a b:Nat,a<b→b<n→(l.map Sb.xs)[a]?≠(l.map Sb.xs)[b]?)→¬ Dup (l.map Sb.xs)):=fun hh hd=>by
  obtain ⟨a,b,h1,h2,h3⟩:=hdi.1 hd
  exact hh a b h1 h2 h3
 clear hdi
 generalize Dup (l.map Sb.xs)=D at *
 have HEQ:=hidden (fun (a b:Sb) (W:World) (ha:Byt W a.p a.n a.c a.xs) (hb:Byt W b.p b.n b.c b.xs)=>requal_any a.p b.p a.n a.c b.n b.c a.xs b.xs W ha hb)
 have HCELL:Hid (∀ i,i<n→∃ (g:Nat) (x:Sb),p=some ⟨g,0,none⟩∧(l.map Sb.xs)[i]?=some x.xs∧∀ W,Below w.heap.size w W→W.cell? ⟨g,i,none⟩=some (.slice x.p x.n x.c)∧Byt W x.p x.n x.c x.xs):=fun i hi=>by
  obtain ⟨g,x,e,hx,-,hxb,hxc⟩:=RdG.sb_cons h hi
  exact ⟨g,x,e,by rw [List.getElem?_map,hx];rfl,fun W hW=>⟨cell_below hW _ _ hxc,hxb.below hW⟩⟩
 obtain ⟨L,hL⟩ : ∃ L,l.map Sb.xs=L:=⟨_,rfl⟩
 rw [hL] at HYES HNOT HCELL
 clear h hlen H hL
 go_enter Tryz.func61,Tryz.ntmps61
 have HB0:=hidden (Below.refl w.heap.size w)
 go_wp2
 go_loopw [3] (fun v wr=>∃ i:Nat,i≤n∧v=.int .i64 i∧Hid (∀ a b:Nat,a<b→b<i→L[a]?≠L[b]?)∧Below w.heap.size w wr) (fun v _=>n - (intOf v).toNat)
 case atStart=>exact ⟨0,by omega,rfl,fun a b h1 h2=>by omega,HB0.out⟩
 case round =>
  obtain ⟨i,hi,rfl,HNO,hb⟩:=hrel
  have HB:=hidden hb
  clear hb HB0
  by_cases hlt:i<n
  ·have hlt':(i:Int)<n:=by omega
   have hi0:(0:Int)≤(i:Int):=by omega
   obtain ⟨g,x,hpg,HXI,HX⟩:=HCELL.out i hlt
   subst hpg
   have HXI:=hidden HXI
   have HX:=hidden HX
   have HI0:Hid (∀ a:Nat,a<0→L[a]?≠L[i]?):=fun a h=>by omega
   go_wp2
   go_loopw [4] (fun v wr=>∃ k:Nat,k≤i∧v=.int .i64 k∧Hid (∀ a:Nat,a<k→L[a]?≠L[i]?)∧Below w.heap.size w wr) (fun v _=>i - (intOf v).toNat)
   case atStart=>exact ⟨0,by omega,rfl,HI0,HB.out⟩
   case round =>
    obtain ⟨k,hk,rfl,HNK,hb⟩:=hrel
    have HBK:=hidden hb
    clear hb HI0
    by_cases hkl:k<i
    ·have hkl':(k:Int)<i:=by omega
     have hk0:(0:Int)≤(k:Int):=by omega
     have hkn:(k:Int)<n:=by omega
     obtain ⟨g',y,hpg,HYI,HY⟩:=HCELL.out k (by omega)
     have hgg:g'=g:=by cases hpg;rfl
     subst hgg
     clear hpg
     have HYI:=hidden HYI
     have HY:=hidden HY
     have HBD:=hidden (HBK.out.drew)
     have HEE:=hidden (HEQ.out x y _ (HX.out _ HBD.out).2 (HY.out _ HBD.out).2)
     by_cases hxy:x.xs=y.xs
     ·rw [decide_eq_true hxy] at HEE
      have HD:Hid D:=HYES.out k i hkl (by omega) (by rw [HYI.out,HXI.out,hxy])
      clear hxy
      go_upto_region 7 with fail
      go_region_held3 (fun w'=>w'.cell? ⟨g',i,none⟩=some (.slice x.p x.n x.c)∧w'.cell? ⟨g',k,none⟩=some (.slice y.p y.n y.c)) (first | exact ⟨(HX.out _ HBD.out).1,(HY.out _ HBD.out).1⟩ | exact ⟨(HX.out _ HBE.out).1,(HY.out _ HBE.out).1⟩ | go_keep) (first
       | (go_at_call 69;(with_reducible refine (HEE.out).mono ?_);rintro e w2 ⟨rfl,hd⟩;have HBE:=hidden (HBD.out.trans ((drew_below (B:=w.heap.size) hd).mono (Nat.le_refl _))))
       | fail)
      all_goals
       go_wp2
       go_ret
       exact twiceR_yes HD.out HBE.out
     ·rw [decide_eq_false hxy] at HEE
      have HN2:Hid (∀ a:Nat,a<k+1→L[a]?≠L[i]?):=fun a ha=>by
       by_cases hak:a=k
       ·subst hak
        rw [HYI.out,HXI.out]
        intro e
        injection e with e
        exact hxy e.symm
       ·exact HNK.out a (by omega)
      clear hxy
      go_upto_region 7 with fail
      go_region_held3 (fun w'=>w'.cell? ⟨g',i,none⟩=some (.slice x.p x.n x.c)∧w'.cell? ⟨g',k,none⟩=some (.slice y.p y.n y.c)) (first | exact ⟨(HX.out _ HBD.out).1,(HY.out _ HBD.out).1⟩ | exact ⟨(HX.out _ HBE.out).1,(HY.out _ HBE.out).1⟩ | go_keep) (first
       | (go_at_call 69;(with_reducible refine (HEE.out).mono ?_);rintro e w2 ⟨rfl,hd⟩;have HBE:=hidden (HBD.out.trans ((drew_below (B:=w.heap.size) hd).mono (Nat.le_refl _))))
       | fail)
      all_goals
       go_wp2
       go_roundw
       case rel=>exact ⟨k+1,by omega,by go_num,HN2,HBE.out⟩
       case measure=>simp [intOf];omega
    ·have hge:¬ (k:Int)<i:=by omega
     have HNI:Hid (∀ a b:Nat,a<b→b<i+1→L[a]?≠L[b]?):=fun a b h1 h2=>by
      by_cases hbi:b=i
      ·subst hbi
       exact HNK.out a (by omega)
      ·exact HNO.out a b h1 (by omega)
     go_wp2
     go_roundw
     case rel=>exact ⟨i+1,by omega,by go_num,HNI,HBK.out⟩
     case measure=>simp [intOf];omega
  ·have hge:¬ (i:Int)<n:=by omega
   have HND:=hidden (HNOT.out (fun a b h1 h2=>HNO.out a b h1 (by omega)))
   go_wp2
   go_ret
   exact twiceR_no HND.out HB.out
end Go.Proofs.YtgpigjoonhghhaaGreat

namespace Go.Proofs.YtgpigjoonhghhaaGreat
open Go.RowKit
set_option linter.unusedVariables false
structure MnIn (w:World) (g:Nat) (np:Int) (p:Option Addr) (n c:Nat) (nt:Int) (q:Option Addr) (m d:Nat):Prop where
 c0:w.cell? ⟨g,0,none⟩=some (.int .i64 np)
 c1:w.cell? ⟨g,1,none⟩=some (.slice p n c)
 c2:w.cell? ⟨g,2,none⟩=some (.int .i64 nt)
 c3:w.cell? ⟨g,3,none⟩=some (.slice q m d)
 fr : ∀ j,w.frozen? ⟨g,j,none⟩=false
section
variable {w w':World} {g:Nat} {np:Int} {p:Option Addr} {n c:Nat} {nt:Int} {q:Option Addr} {m d:Nat}
theorem MnIn.lt (h:MnIn w g np p n c nt q m d):g<w.heap.size:=World.block_lt_of_cell? w _ h.c0
theorem MnIn.grown {row:Option Nat} (h:MnIn w g np p n c nt q m d) (hg:w.grownBy w' row) (hne:some g≠row):MnIn w' g np p n c nt q m d :=
 ⟨hg.cell h.c0 hne,hg.cell h.c1 hne,hg.cell h.c2 hne,hg.cell h.c3 hne,fun j=>(World.frozen?_of_block (show w'.heap[(⟨g,j,none⟩:Addr).block]?=_ from hg.block g h.lt hne)).trans (h.fr j)⟩
theorem MnIn.below (h:MnIn w g np p n c nt q m d) (hb:Below w.heap.size w w'):MnIn w' g np p n c nt q m d:=h.grown (row:=none) (grown_of_below hb none) (by simp)
theorem MnIn.new (w:World) (np:Int) (p:Option Addr) (n c:Nat) (nt:Int) (q:Option Addr) (m d:Nat) (T:TypeId):MnIn (w.alloc (.cells #[.int .i64 np,.slice p n c,.int .i64 nt,.slice q m d] T)) w.heap.size np p n c nt q m d :=
 ⟨by go_simp,by go_simp,by go_simp,by go_simp,fun j=>by go_simp⟩
theorem MnIn.set (h:MnIn w g np p n c nt q m d) (p' q':Option Addr) (n' c' m' d':Nat):MnIn ((w.setCell ⟨g,1,none⟩ (.slice p' n' c')).setCell ⟨g,3,none⟩ (.slice q' m' d')) g np p' n' c' nt q' m' d':=by
 obtain ⟨c0,c1,c2,c3,fr⟩:=h
 exact ⟨by go_simp,by go_simp,by go_simp,by go_simp,fun j=>by simp only [World.frozen?_setCell];exact fr j⟩
theorem MnIn.all (h:MnIn w g np p n c nt q m d) (zp:Int) (p':Option Addr) (n' c':Nat) (zt:Int) (q':Option Addr) (m' d':Nat):MnIn ((((w.setCell ⟨g,0,none⟩ (.int .i64 zp)).setCell ⟨g,1,none⟩ (.slice p' n' c')).setCell ⟨g,2,none⟩ (.int .i64 zt)).setCell ⟨g,3,none⟩ (.slice q' m' d')) g zp p' n' c' zt q' m' d':=by
 obtain ⟨c0,c1,c2,c3,fr⟩:=h
 exact ⟨by go_simp,by go_simp,by go_simp,by go_simp,fun j=>by simp only [World.frozen?_setCell];exact fr j⟩
theorem MnIn.other (h:MnIn w g np p n c nt q m d) {g':Nat} (hne:g≠g') (u v:Value):MnIn ((w.setCell ⟨g',1,none⟩ u).setCell ⟨g',3,none⟩ v) g np p n c nt q m d :=
 (h.grown (grown_set w g' 1 u) (by simp;exact hne)).grown (grown_set _ g' 3 v) (by simp;exact hne)
theorem load_nt (h:MnIn w g np p n c nt q m d):(loadVar 43 ⟨g,0,none⟩).run Tryz.prog w=.ok (.agg #[.int .i64 np,.slice p n c,.int .i64 nt,.slice q m d]) w:=by
 obtain ⟨c0,c1,c2,c3,fr⟩:=h
 simp [loadVar,go_sem,c0,c1,c2,c3,Result.andThen]
theorem ret_nt {fn:Func} {R:Ending→World→Prop} {a:Act} {u:Nat} (h:fn.results=#[.cell u 43]) (hp:a.tmps.getD u undef=.pointer (some ⟨g,0,none⟩)) (hd:a.defers=[])
  (hh:MnIn w g np p n c nt q m d) (hR:R (.returned (.agg #[.int .i64 np,.slice p n c,.int .i64 nt,.slice q m d])) w):bodyPost Tryz.prog fn R .ret a w:=by
 refine bodyPost_ret (v:=.agg #[.int .i64 np,.slice p n c,.int .i64 nt,.slice q m d]) ?_ hd hR
 rw [Array.getD_eq_getD_getElem?] at hp
 simp [results,h,hp,asAddr,load_nt hh]
end
set_option maxHeartbeats 3200000 in
set_option maxRecDepth 100000 in
theorem copiedNote_any (np nt:Int) (p q:Option Addr) (n c m d:Nat) (xs ys:List Int) (w:World) (h:Byt w p n c xs) (k:Byt w q m d ys) (hn:n≤140737488355328) (hm:m≤140737488355328) :
  Calls Tryz.prog 92 #[.agg #[.int .i64 np,.slice p n c,.int .i64 nt,.slice q m d]] w fun e w'=>(∃ (p' q':Option Addr) (c' d':Nat),e=.returned (.agg #[.int .i64 np,.slice p' n c',.int .i64 nt,.slice q' m d']))∧Below w.heap.size w w':=by
 have hx:=hidden h.rng
 have hy:=hidden k.rng
 have HL:=Is.mk h.len
 have KL:=Is.mk k.len
 have HX:=hidden (fun W (hb:Below w.heap.size w W)=>clone_any p n c xs W (h.below hb) hn)
 have HY:=hidden (fun W (hb:Below w.heap.size w W)=>clone_any q m d ys W (k.below hb) hm)
 clear h k hn hm
 have hBD:=((((Below.refl w.heap.size w).alloc (Nat.le_refl _) (.cells #[.int .i64 np,.slice p n c,.int .i64 nt,.slice q m d] 43)).alloc (by simp) (.cells #[.int .i64 0,.slice none 0 0,.int .i64 0,.slice none 0 0] 43)).drew)
 have hG:=((MnIn.new w np p n c nt q m d 43).below ((Below.refl _ _).alloc (Nat.le_refl _) (.cells #[.int .i64 0,.slice none 0 0,.int .i64 0,.slice none 0 0] 43))).below (drew_below ⟨1,rfl⟩)
 have hR:=(MnIn.new (w.alloc (.cells #[.int .i64 np,.slice p n c,.int .i64 nt,.slice q m d] 43)) 0 none 0 0 0 none 0 0 43).below (drew_below (w':=((w.alloc (.cells #[.int .i64 np,.slice p n c,.int .i64 nt,.slice q m d] 43)).alloc (.cells #[.int .i64 0,.slice none 0 0,.int .i64 0,.slice none 0 0] 43)).drew) ⟨1,rfl⟩)
 rw [show (w.alloc (.cells #[.int .i64 np,.slice p n c,.int .i64 nt,.slice q m d] 43)).heap.size=w.heap.size+1 by simp] at hR
 have HBD:=hidden hBD
 have HG:=hidden hG
 have HR:=hidden hR
 clear hBD hG hR
 go_enter Tryz.func92,Tryz.ntmps92
 go_upto_region 1 with fail
 go_cut [] from 3 to 10 (fun wx=>∃ (p1 p2:Option Addr) (e1 e2:Nat),MnIn wx w.heap.size np p1 n e1 nt p2 m e2∧MnIn wx (w.heap.size+1) 0 none 0 0 0 none 0 0∧Below w.heap.size w wx)
 case first =>
  go_region_with (first
   | (go_at_call 99;(with_reducible refine (HX.out _ HBD.out).mono ?_);rintro _ w1 ⟨v1,rfl,hown1,hb1⟩;obtain ⟨p1,e1,rfl,-⟩:=hown1.bytN rfl HL.eq hx.out;have HB1:=hidden (HBD.out.trans (hb1.mono HBD.out.size));have HG1:=hidden (HG.out.below hb1);have HR1:=hidden (HR.out.below hb1);obtain ⟨g0,g1,g2,g3,gf⟩:=HG1.out;have gf1:=gf 1;have gf3:=gf 3;clear hown1 hb1 gf)
   | (go_at_call 99;(with_reducible refine (HY.out _ HB1.out).mono ?_);rintro _ w2 ⟨v2,rfl,hown2,hb2⟩;obtain ⟨p2,e2,rfl,-⟩:=hown2.bytN rfl KL.eq hy.out;have HB2:=hidden (HB1.out.trans (hb2.mono HB1.out.size));have HR2:=hidden (HR1.out.below hb2);have HN2:=hidden (HG1.out.below hb2);obtain ⟨k0,k1,k2,k3,kf⟩:=HG1.out.below hb2;have kf1:=kf 1;have kf3:=kf 3;clear hown2 hb2 kf)
   | fail)
  all_goals
   go_wp2
   go_meet
   case rel=>exact ⟨p1,p2,e1,e2,HN2.out.set p1 p2 n e1 m e2,HR2.out.other (by omega) _ _,(HB2.out.setCell (p:=⟨w.heap.size,1,none⟩) (Nat.le_refl _) _).setCell (p:=⟨w.heap.size,3,none⟩) (Nat.le_refl _) _⟩
 case rest =>
  obtain ⟨p1,p2,e1,e2,hN,hR,hB⟩:=hcut
  obtain ⟨g0,g1,g2,g3,gf⟩:=hN
  have HR2:=hidden hR
  obtain ⟨r0,r1,r2,r3,rf⟩:=hR
  have rf0:=rf 0
  have rf1:=rf 1
  have rf2:=rf 2
  have rf3:=rf 3
  have HB:=hidden hB
  clear HX HY HG HR HBD hB
  go_wp2
  refine ret_nt (g:=w.heap.size+1) rfl rfl rfl (HR2.out.all np p1 n e1 nt p2 m e2) ⟨⟨p1,p2,e1,e2,rfl⟩,?_⟩
  have h1:w.heap.size≤w.heap.size+1:=Nat.le_succ _
  exact (((HB.out.setCell (p:=⟨w.heap.size+1,0,none⟩) h1 _).setCell (p:=⟨w.heap.size+1,1,none⟩) h1 _).setCell (p:=⟨w.heap.size+1,2,none⟩) h1 _).setCell (p:=⟨w.heap.size+1,3,none⟩) h1 _
end Go.Proofs.YtgpigjoonhghhaaGreat

namespace Go.Proofs.YtgpigjoonhghhaaGreat
open Go.RowKit
open Go.Maps (Keyed IsMap)
set_option linter.unusedVariables false
set_option maxRecDepth 100000
theorem lawInt:Keyed Tryz.prog 3:=Maps.int_keyed Tryz.underlying3
theorem key_int (t:Int) (h:IntR t):keyOf Tryz.prog 3 (.int .i64 t)=some (.int .i64 t):=Maps.keyOf_int_mk Tryz.underlying3 (WalkArith.wf_i64 (by unfold IntR at h;omega))
structure FndD (D:DataW Unit) (ts:List Int):Prop where
 map:IsMap D
 at_ : ∀ (t:Int),IntR t→D.atKey (.int .i64 t) (.lit (.bool false))=.lit (.bool (decide (t∈ts)))
def Fnd (w:World) (b:Nat) (ts:List Int):Prop:=∃ D:DataW Unit,w.ownsMap Tryz.prog 3 (plainElem Tryz.prog 4) b ts.length D∧FndD D ts
theorem Fnd.made (w:World):Fnd (w.alloc (.map #[] 0)) w.heap.size []:=⟨_,World.ownsMap_made _ _ _ _,⟨[],rfl⟩,fun t h=>by simp [DataW.atKey]⟩
theorem Fnd.lt {w:World} {b:Nat} {ts:List Int} (h:Fnd w b ts):b<w.heap.size:=by
 obtain ⟨D,h1,_⟩:=h
 exact h1.lt
theorem Fnd.grown {w w':World} {b:Nat} {ts:List Int} {row:Option Nat} (h:Fnd w b ts) (hg:w.grownBy w' row) (hne:some b≠row):Fnd w' b ts:=by
 obtain ⟨D,h1,h2⟩:=h
 exact ⟨D,h1.kept hg hne,h2⟩
theorem Fnd.below {w w':World} {b:Nat} {ts:List Int} (h:Fnd w b ts) (hb:Below w.heap.size w w'):Fnd w' b ts:=h.grown (row:=none) (grown_of_below hb none) (by simp)
theorem Fnd.notCells {w:World} {b:Nat} {ts:List Int} (h:Fnd w b ts) (cur:Array Value) (e:TypeId) (fz:Nat × Nat):w.heap[b]?≠some (.cells cur e fz):=by
 obtain ⟨D,⟨es,clock,h1,_⟩,_⟩:=h
 rw [h1]
 simp
theorem Tryz.zeroBoolI (w:World):(zeroValue 4).run Tryz.prog w=.ok (.bool false) w:=by kernel_rfl
theorem Fnd.look {w:World} {b:Nat} {ts:List Int} (h:Fnd w b ts) (t:Int) (hi:IntR t) :
  (Instr.lookup 83 (.map (some b)) (.int .i64 t) false).run Tryz.prog w=.ok (.bool (decide (t∈ts))) w:=by
 obtain ⟨D,h1,h2⟩:=h
 obtain ⟨v,ps,hrun,hv⟩:=h1.lookup lawInt Tryz.underlying83 (Tryz.zeroBoolI w) (plainElem_bool Tryz.underlying4 false) (key_int t hi)
 rw [h2.at_ t hi] at hv
 have:v=.bool (decide (t∈ts)):=by
  unfold plainElem at hv
  rw [Tryz.underlying4] at hv
  cases v<;>simp at hv
  rw [hv.1]
 rw [←this]
 exact hrun
theorem FndD.put {D:DataW Unit} {ts:List Int} (h:FndD D ts) (t:Int) (hi:IntR t):FndD (D.put (.int .i64 t) (.lit (.bool true))) (ts++[t]):=by
 refine ⟨h.map.put _ _,fun t' hi'=>?_⟩
 by_cases he:t'=t
 ·subst he
  rw [Maps.atKey_put_same h.map (lawInt.key (key_int t' hi))]
  simp
 ·have hne:(Lit.int .i64 t':Lit)≠.int .i64 t:=by
   intro e
   injection e with _ e
   exact he e
  rw [Maps.atKey_put_other hne,h.at_ t' hi']
  simp [he]
theorem wpList_fnd (w:World) {ops:Array Oper} {rest:List Oper} {o:Oper} {a:Act} {Q:Exit→Act→World→Prop} (hg:o.guard=none) (m x v:Operand) (hop:o.op=Op.mapUpdate 83 m x v)
  (b:Nat) (ts:List Int) (h:Fnd w b ts) (hn:ts.length<maxLen) (hm:a.eval m=.map (some b)) (t:Int) (hx:a.eval x=.int .i64 t) (hv:a.eval v=.bool true) (hi:IntR t)
  (hK : ∀ w',Fnd w' b (ts++[t])→w.grownBy w' (some b)→wpList Tryz.prog ops Q rest (a.put o.dst undef) w'):wpList Tryz.prog ops Q (o :: rest) a w:=by
 obtain ⟨D,h1,h2⟩:=h
 refine wpList_mapUpdate_own w hg m x v _ hop _ _ lawInt Tryz.underlying83 _ b _ D hm h1 hn _ _ (.int .i64 t) hx hv (key_int t hi) _ [] (plainElem_bool Tryz.underlying4 true) ?_
 intro w' h3 h4
 exact hK w' ⟨_,by simpa using h3,h2.put t hi⟩ h4
end Go.Proofs.YtgpigjoonhghhaaGreat

namespace Go.Proofs.YtgpigjoonhghhaaGreat
open Go.RowKit
set_option linter.unusedVariables false
set_option maxHeartbeats 800000 in
theorem containsFunc_any (p:Option Addr) (n c:Nat) (l:List Pv) (w:World) (h:RdG KPv DPv w p n c l) :
  Calls Tryz.prog 52 #[.slice p n c,.func (.func 53) #[] #[]] w fun e w'=>e=.returned (.bool (l.any tells))∧Below w.heap.size w w':=by
 have HC:=hidden (indexFunc_any p n c l w h)
 have HN:=Is.mk (firstAt_neg tells l 0)
 generalize firstAt tells l 0=R at HC HN
 go_enter Tryz.func52,Tryz.ntmps52
 go_wp2_with (first
  | (go_at_call 70;(with_reducible refine (HC.out).mono ?_);rintro _ w1 ⟨rfl,hb1⟩;have HB1:=hidden hb1;clear hb1)
  | fail)
 go_ret
 exact ⟨by rw [←HN.eq];rfl,HB1.out⟩
set_option maxHeartbeats 800000 in
theorem fails_any (i r nx x f m:Int) (p:Option Addr) (n c:Nat) (l:List Pv) (w:World) (h:RdG KPv DPv w p n c l) :
  Calls Tryz.prog 29 #[.agg #[.int .u64 i,.int .u64 r,.int .i64 nx,.int .i64 x,.int .i64 f,.int .u32 m,.slice p n c]] w fun e w'=>e=.returned (.bool (l.any tells))∧Below w.heap.size w w':=by
 have HB0:=hidden ((Below.refl w.heap.size w).alloc (Nat.le_refl _) (.cells #[.int .u64 i,.int .u64 r,.int .i64 nx,.int .i64 x,.int .i64 f,.int .u32 m,.slice p n c] 32))
 have HC:=hidden (containsFunc_any p n c l (w.alloc (.cells #[.int .u64 i,.int .u64 r,.int .i64 nx,.int .i64 x,.int .i64 f,.int .u32 m,.slice p n c] 32)) (h.below HB0.out))
 clear h
 go_enter Tryz.func29,Tryz.ntmps29
 go_wp2_with (first
  | (go_at_call 52;(with_reducible refine (HC.out).mono ?_);rintro _ w1 ⟨rfl,hb1⟩;have HB1:=hidden (HB0.out.trans (hb1.mono HB0.out.size));clear hb1)
  | fail)
 go_ret
 exact ⟨rfl,HB1.out⟩
end Go.Proofs.YtgpigjoonhghhaaGreat

namespace Go.Proofs.YtgpigjoonhghhaaGreat
open Go.RowKit
set_option linter.unusedVariables false
end Go.Proofs.YtgpigjoonhghhaaGreat
