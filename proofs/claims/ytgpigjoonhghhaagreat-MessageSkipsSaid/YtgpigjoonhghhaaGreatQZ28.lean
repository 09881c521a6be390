/-
 The document's own writer of deletions: removal.
 The document's own Parse of a payload's body, at any type.
 The example of the chapter on messages holds: awake returns true and only adds memory of its own.
-/
import Derived.Test.YtgpigjoonhghhaaGreatQZ27
import Derived.Test.YtgpigjoonhghhaaGreatQRPayParseA
import Derived.Test.YtgpigjoonhghhaaGreatQRPayParseB
import Derived.Test.YtgpigjoonhghhaaGreatQRPayParseC
import Derived.Test.YtgpigjoonhghhaaGreatQRPayParseD
import Derived.Test.YtgpigjoonhghhaaGreatQZ32
namespace Go.Proofs.YtgpigjoonhghhaaGreat
open Go.RowKit
set_option linter.unusedVariables false
def remB (k:Int) (l:List (List Int)):List Int × Int :=
 if k<1∨3<k then ([],5)
 else if k=1∧l≠[] then ([],20)
 else if sizeBad (spiZ k) l≠spiZ k then ([],20)
 else if k≠1∧l=[] then ([],8)
 else (delL k l,0)
set_option maxHeartbeats 6400000 in
set_option maxRecDepth 100000 in
theorem removal_any (k:Int) (p:Option Addr) (n c:Nat) (l:List Sb) (w:World) (h:RdG KSb DSb w p n c l) (hn:n≤1000) :
  Calls Tryz.prog 39 #[.agg #[.int .i64 k,.slice p n c]] w (GotBE w (remB k (l.map Sb.xs)).1 (remB k (l.map Sb.xs)).2):=by
 obtain ⟨i0,hi0,hz0,hz1,hz2⟩:=info_parts Tryz.infoByte
 have HB:=hidden ((Below.refl w.heap.size w).alloc (Nat.le_refl _) (.cells #[.int .i64 k,.slice p n c] 46))
 have k0:(w.alloc (.cells #[.int .i64 k,.slice p n c] 46)).cell? ⟨w.heap.size,0,none⟩=some (.int .i64 k):=by go_simp
 have k1:(w.alloc (.cells #[.int .i64 k,.slice p n c] 46)).cell? ⟨w.heap.size,1,none⟩=some (.slice p n c):=by go_simp
 obtain ⟨X,hX⟩ : ∃ X,l.map Sb.xs=X:=⟨_,rfl⟩
 have hXl:X.length=n:=by rw [←hX,List.length_map,h.len]
 rw [hX]
 have HX:=Is.mk hX
 have HXL:=Is.mk hXl
 have hn0:=h.le
 have hlt:w.heap.size<(w.alloc (.cells #[.int .i64 k,.slice p n c] 46)).heap.size:=by simp only [World.alloc,Array.size_push];omega
 obtain ⟨w1,hw1⟩ : ∃ w1,w.alloc (.cells #[.int .i64 k,.slice p n c] 46)=w1:=⟨_,rfl⟩
 rw [hw1] at HB k0 k1 hlt
 have HRD:=hidden (fun W (hW:Below w1.heap.size w1 W)=>(h.below HB.out).below hW)
 have HKK:=hidden (fun W (hW:Below w1.heap.size w1 W)=>(⟨cell_below hW _ _ k0,cell_below hW _ _ k1⟩:W.cell? ⟨w.heap.size,0,none⟩=some (.int .i64 k)∧W.cell? ⟨w.heap.size,1,none⟩=some (.slice p n c)))
 clear h hX hXl
 by_cases hk1:k<1
 ·rw [show remB k X=([],5) from by unfold remB;rw [if_pos (Or.inl hk1)]]
  go_enter Tryz.func39,Tryz.ntmps39
  go_wp2
  go_ret2
  exact ⟨none,0,rfl,Frs.nil _ _ none 0 (by decide),HB.out⟩
 by_cases hk3:3<k
 ·rw [show remB k X=([],5) from by unfold remB;rw [if_pos (Or.inr hk3)]]
  go_enter Tryz.func39,Tryz.ntmps39
  go_wp2
  go_ret2
  exact ⟨none,0,rfl,Frs.nil _ _ none 0 (by decide),HB.out⟩
 have HW:=hidden (fun W=>rwidth_same k W)
 rw [width_spi k (by omega) (by omega)] at HW
 obtain ⟨z,hz⟩ : ∃ z,spiZ k=z:=⟨_,rfl⟩
 have hz4:z≤4:=by rw [←hz];exact spiZ_le k
 have hrem:remB k X=if k=1∧X≠[] then ([],20) else if sizeBad z X≠z then ([],20) else if k≠1∧X=[] then ([],8) else (delL k X,0):=by unfold remB;rw [if_neg (by omega),hz]
 have hdel:delL k X=[k % 256,(sizeBad z X:Int) % 256,(n:Int) / 256 % 256,(n:Int) % 256]++X.flatten:=by unfold delL;rw [hz,HXL.eq]
 have hnil:X=[]↔n=0:=by rw [←HXL.eq];exact List.length_eq_zero_iff.symm
 have HD:=hidden (sizeBad_drop z X)
 rw [hz] at HW
 have HREM:=Is.mk hrem
 have HDEL:=Is.mk hdel
 clear hz hrem hdel
 by_cases hs:k=1∧n≠0
 ·obtain ⟨rfl,hn1⟩:=hs
  rw [HREM.eq,if_pos ⟨rfl,fun e=>hn1 (hnil.1 e)⟩]
  have hb_:((n:Int) != 0)=true:=by simp;omega
  clear hnil
  go_enter Tryz.func39,Tryz.ntmps39
  go_wp2_with (first
   | (go_at_call 38;(with_reducible refine (HW.out _).mono ?_);rintro e w2 ⟨rfl,hx⟩;replace hx:=hx.symm;subst hx)
   | fail)
  go_ret2
  exact ⟨none,0,rfl,Frs.nil _ _ none 0 (by decide),HB.out⟩
 have hXn:¬ (k=1∧X≠[]):=fun e=>hs ⟨e.1,fun e2=>e.2 (hnil.2 e2)⟩
 rw [if_neg hXn] at HREM
 have hw2:IntKind.u8.wrap k=k:=by rw [IntKind.wrap_u8];omega
 have hw3:IntKind.u8.wrap (z:Int)=(z:Int):=by rw [IntKind.wrap_u8];omega
 have hw4:IntKind.u64.wrap (n:Int)=(n:Int):=wraps_u64 _ (by omega) (by omega)
 have HA:=hidden ((Below.refl w1.heap.size w1).alloc (Nat.le_refl _) (.cells #[.int .u8 k,.int .u8 (z:Int)] 5))
 have d1:=(HKK.out _ HA.out).2
 have HPU:=hidden ((rput_yes _ 2 _ _ _ (byt_two6 w1 k (z:Int) (by omega) (by omega)) (by omega) (n:Int) (by omega) 2 (by omega) (by omega)))
 rw [show ((2:Nat):Int)=2 from rfl] at HPU
 have hX0:[k,(z:Int)]++be 2 n=[k % 256,(z:Int) % 256,(n:Int) / 256 % 256,(n:Int) % 256]:=by
  rw [be_two n (by omega) (by omega),Int.emod_eq_of_lt (a:=k) (by omega) (by omega),Int.emod_eq_of_lt (a:=(z:Int)) (by omega) (by omega)]
  rfl
 rw [hX0] at HPU
 clear hX0 hXn
 obtain ⟨X0,hX0⟩ : ∃ X0,[k % 256,(z:Int) % 256,(n:Int) / 256 % 256,(n:Int) % 256]=X0:=⟨_,rfl⟩
 have hX04:X0.length=4:=by rw [←hX0];rfl
 have hX0r : ∀ x∈X0,0≤x∧x≤255:=by rw [←hX0];intro x hx;simp at hx;omega
 have HX0:=Is.mk hX0
 have HX04:=Is.mk hX04
 have HX0R:=hidden hX0r
 rw [hX0] at HPU
 have HN:=hidden hnil
 clear hX0 hX04 hX0r hnil
 by_cases h1:k=1
 ·obtain rfl:k=1:=h1
  have h0:n=0:=by omega
  have hb_:((n:Int) != 0)=false:=by simp;omega
  have hge:¬ (0:Int)<(n:Int):=by omega
  have HRE:=Is.mk (show remB 1 X=(delL 1 X,0) by
   have hx:X=[]:=HN.out.2 h0
   rw [HREM.eq,if_neg (by rw [hx];simp [sizeBad]),if_neg (by simp)])
  have HLL:Hid (X0=delL 1 X):=hidden (by rw [HDEL.eq,HN.out.2 h0,←HX0.eq];simp [sizeBad])
  have HRG:=hidden (show ∀ x∈delL 1 X,0≤x∧x≤255 by rw [←HLL.out];exact HX0R.out)
  clear hs h0
  go_enter Tryz.func39,Tryz.ntmps39
  go_wp2_with (first
   | (go_at_call 38;(with_reducible refine (HW.out _).mono ?_);rintro e w2 ⟨rfl,hx⟩;replace hx:=hx.symm;subst hx)
   | (go_at_call 20;(with_reducible refine (HPU.out).mono ?_);rintro e w2 ⟨v2,rfl,ho,hb⟩;have HO2:=hidden (ho.mono HA.out.size);have HK2:=hidden (HA.out.trans (hb.mono HA.out.size));have hc2:=(HKK.out _ HK2.out);obtain ⟨q2,d2,rfl⟩ : ∃ q d,v2=.slice q 4 d:=(by obtain ⟨q,d,e⟩:=HO2.out.form;rw [HX04.eq] at e;exact ⟨q,d,e⟩);obtain ⟨e0,e1⟩:=hc2;clear ho hb)
   | fail)
  go_loopw [5,6] (fun v i wr=>v=.slice q2 4 d2∧i=.int .i64 0∧wr=w2) (fun _ _ _=>0)
  case atStart=>exact ⟨rfl,rfl,rfl⟩
  case round =>
   obtain ⟨rfl,rfl,hx⟩:=hrel
   replace hx:=hx.symm
   subst hx
   go_wp2
   go_ret2
   refine (?_:GotBE w (remB 1 X).1 (remB 1 X).2 _ _)
   rw [HRE.eq]
   exact own_be (show Own _ _ _ _ (delL 1 X) by rw [←HLL.out];exact HO2.out.mono HB.out.size) HRG.out (HB.out.trans (HK2.out.mono HB.out.size))
 have hb1:(k == 1)=false:=by simpa using h1
 have hb2:(k != 1)=true:=by simpa using h1
 clear hs
 go_enter Tryz.func39,Tryz.ntmps39
 go_wp2_with (first
  | (go_at_call 38;(with_reducible refine (HW.out _).mono ?_);rintro e w2 ⟨rfl,hx⟩;replace hx:=hx.symm;subst hx)
  | (go_at_call 20;(with_reducible refine (HPU.out).mono ?_);rintro e w2 ⟨v2,rfl,ho,hb⟩;have HO2:=hidden (ho.mono HA.out.size);have HK2:=hidden (HA.out.trans (hb.mono HA.out.size));clear ho hb)
  | fail)
 clear d1
 go_loopw [5,6] (fun v i wr=>∃ j:Nat,j≤n∧i=.int .i64 j∧Hid (∀ x∈X.take j,x.length=z)∧Own wr w1.heap.size 5 v (X0++(X.take j).flatten)∧Below w1.heap.size w1 wr) (fun _ i _=>n - (intOf i).toNat)
 case atStart=>exact ⟨0,by omega,rfl,hidden (by simp),by simpa using HO2.out,HK2.out⟩
 case round =>
  obtain ⟨j,hj,rfl,ha,ho,hb⟩:=hrel
  clear HO2 HK2
  rename World=>wr
  have hc:=HKK.out _ hb
  obtain ⟨c0,c1⟩:=hc
  have HO:=hidden ho
  have HK:=hidden hb
  by_cases hlt:j<n
  ·have hlt':(j:Int)<n:=by omega
   obtain ⟨g,y,rfl,hly,hld,hyb,hcell⟩:=(HRD.out _ hb).sb_cons hlt
   have hyl:=hyb.len
   have hXj:X.drop j=y.xs :: X.drop (j+1):=by rw [←HX.eq,←List.map_drop,hld,List.map_cons,List.map_drop]
   by_cases hyz:y.n=z
   ·have hne:((y.n:Int) != (z:Int))=false:=by simp;omega
    have hjx:j<X.length:=by rw [HXL.eq];exact hlt
    have hxj:X[j]=y.xs:=by
     have:=congrArg (fun l=>l[0]?) hXj
     simpa [List.getElem?_drop,hjx] using this
    have HA2:Hid (∀ x∈X.take (j+1),x.length=z):=by
     intro x hx
     rw [List.take_succ_eq_append_getElem hjx,List.mem_append,List.mem_singleton] at hx
     rcases hx with hx | rfl
     ·exact ha.out x hx
     ·rw [hxj];omega
    have HT:Hid ((X0++(X.take j).flatten)++y.xs=X0++(X.take (j+1)).flatten):=hidden (by
     rw [List.take_succ_eq_append_getElem hjx,hxj,List.flatten_append,List.append_assoc];simp)
    have hfl:(X0++(X.take j).flatten).length≤4+4000:=by
     rw [List.length_append,HX04.eq,flatten_len z _ ha.out,List.length_take]
     have:min j X.length*z≤1000*4:=Nat.mul_le_mul (by omega) hz4
     omega
    have HFL:=hidden hfl
    have HY:=hidden hyb
    generalize X0++(X.take j).flatten=P0 at *
    have HYZ:=Is.mk hyz
    clear hly hld hyb hXj ha hjx hxj hfl ho hb hyl hyz
    go_wp2_with (first
     | (at_builtin;refine wpList_append_byt _ rfl _ _ 22 rfl w1.heap.size 5 i0 (.int .u8 0) Tryz.underlying22 hi0 hz0 hz1 hz2 rfl _ _ rfl HO.out _ _ _ _ _ rfl HY.out rfl ?c2 ?c3 ?_)
     | fail)
    case c2=>have:=HFL.out;have:=HYZ.eq;omega
    case c3=>exact HK.out.size
    intro u3 w3 ho3 hg3
    have HO3:=hidden ho3
    have HK3:=hidden (HK.out.grown hg3 HK.out.size (fun k hk=>(HO.out.lt k hk).1))
    clear ho3 hg3
    go_wp2
    go_roundw
    case rel=>exact ⟨j+1,by omega,by go_num,HA2,by rw [←HT.out];exact HO3.out,HK3.out⟩
    case measure=>simp [intOf];omega
   ·have hne:((y.n:Int) != (z:Int))=true:=by simp;omega
    have hres:sizeBad z X≠z:=by
     rw [←HD.out j ha.out,hXj,sizeBad,if_neg (by omega),hyl]
     exact hyz
    have HRE:=Is.mk (show remB k X=([],20) by rw [HREM.eq,if_pos hres])
    clear hly hld hyb hXj ha hres ho hb
    go_wp2
    go_ret2
    refine (?_:GotBE w (remB k X).1 (remB k X).2 _ _)
    rw [HRE.eq]
    exact ⟨none,0,rfl,Frs.nil _ _ none 0 (by decide),HB.out.trans (HK.out.mono HB.out.size)⟩
  ·obtain rfl:j=n:=by omega
   have hge:¬ (j:Int)<j:=by omega
   have hres:sizeBad z X=z:=by rw [←HD.out j ha.out,List.drop_of_length_le (by rw [HXL.eq];exact Nat.le_refl _)];rfl
   have hre:remB k X=if k≠1∧X=[] then ([],8) else (delL k X,0):=by rw [HREM.eq,if_neg (by rw [hres];simp)]
   have htk:X.take j=X:=List.take_of_length_le (by rw [HXL.eq];exact Nat.le_refl _)
   rw [htk] at ho HO
   by_cases hj0:j=0
   ·have hb3:((j:Int) == 0)=true:=by simp;omega
    rw [if_pos ⟨h1,HN.out.2 hj0⟩] at hre
    have HRE:=Is.mk hre
    clear ha hres ho hb htk hre
    go_wp2
    go_ret2
    refine (?_:GotBE w (remB k X).1 (remB k X).2 _ _)
    rw [HRE.eq]
    exact ⟨none,0,rfl,Frs.nil _ _ none 0 (by decide),HB.out.trans (HK.out.mono HB.out.size)⟩
   have hb3:((j:Int) == 0)=false:=by simp;omega
   rw [if_neg (fun e=>hj0 (HN.out.1 e.2))] at hre
   have HRE:=Is.mk hre
   have hall:=sizeBad_all z X hres
   have HLL:Hid (X0++X.flatten=delL k X):=hidden (by rw [HDEL.eq,hres,←HX0.eq])
   obtain ⟨q,d,rfl⟩:=ho.form
   have hfl:(X0++X.flatten).length≤4+4000:=by
    rw [List.length_append,HX04.eq,flatten_len z _ hall,HXL.eq]
    have:j*z≤1000*4:=Nat.mul_le_mul (by omega) hz4
    omega
   have hgt:¬ (65531:Int)<((X0++X.flatten).length:Int):=by omega
   have HR:=hidden hall
   have hO:Hid (Own wr w1.heap.size 5 (.slice q (X0++X.flatten).length d) (delL k X)):=hidden (by rw [←HLL.out];exact ho)
   have hXr : ∀ x∈X.flatten,0≤x∧x≤255:=by
    intro x hx
    obtain ⟨b,hb',hx⟩:=List.mem_flatten.1 hx
    rw [←HX.eq] at hb'
    obtain ⟨s,hs,rfl⟩:=List.mem_map.1 hb'
    exact ((HRD.out _ hb).ok s hs).rng x hx
   have HRG:=hidden (show ∀ x∈delL k X,0≤x∧x≤255 by rw [←HLL.out];exact rng_append HX0R.out hXr)
   generalize (X0++X.flatten).length=N at *
   clear ha hres ho hb htk hall hfl HO hre hXr
   go_wp2
   go_ret2
   refine (?_:GotBE w (remB k X).1 (remB k X).2 _ _)
   rw [HRE.eq]
   exact own_be (hO.out.mono HB.out.size) HRG.out (HB.out.trans (HK.out.mono HB.out.size))
end Go.Proofs.YtgpigjoonhghhaaGreat

namespace Go.Proofs.YtgpigjoonhghhaaGreat
open Go.RowKit
set_option linter.unusedVariables false
theorem rpparse_any (t:Int) (p:Option Addr) (n c:Nat) (xs:List Int) (cr:Bool) (w:World) (h:Byt w p n c xs) (hn:n≤1048576) :
  Calls Tryz.prog 18 #[.agg #[.int .i64 t,.bool cr,.slice p n c]] w (ParsedV w t (parseE t xs) (gdK t xs)):=by
 by_cases hA:t=33∨t=44∨t=45∨t=41∨t=42
 ·exact rpparse_A t hA p n c xs cr w h hn
 by_cases hB:t=34∨t=35
 ·exact rpparse_B t hB p n c xs cr w h hn
 by_cases hC:t=36∨t=39
 ·exact rpparse_C t hC p n c xs cr w h hn
 ·exact rpparse_D t (by omega) p n c xs cr w h hn
end Go.Proofs.YtgpigjoonhghhaaGreat

namespace Go.Proofs.YtgpigjoonhghhaaGreat
open Go.RowKit
set_option linter.unusedVariables false
theorem rd_one {w:World} {g:Nat} {x:Pv} (h:PvIn w g x) (ho:NoteOk w x):RdG KPv DPv w (some ⟨g,0,none⟩) 1 1 [x]:=by
 refine ⟨rfl,Nat.le_refl _,by decide,fun _=>⟨g,rfl,fun j u hj=>?_⟩,fun y hy=>by rw [List.mem_singleton.1 hy];exact ho⟩
 obtain ⟨c0,c1,c2,c3,c4,c5,c6,c7,c8,c9,c10,c11,c12,c13,c14,c15,fr⟩:=h
 have hj':([.int .i64 x.t,.slice x.pr.p x.pr.n x.pr.c,.int .i64 x.eg,.slice x.ed.p x.ed.n x.ed.c,.int .i64 x.ik,.slice x.id.p x.id.n x.id.c,.int .i64 x.am,.slice x.ad.p x.ad.n x.ad.c,.int .i64 x.np,.slice x.ns.p x.ns.n x.ns.c,.int .i64 x.nt,.slice x.nd.p x.nd.n x.nd.c,.int .i64 x.dp,.slice x.ds.p x.ds.n x.ds.c,.slice x.se.p x.se.n x.se.c,.slice x.da.p x.da.n x.da.c]:List Value)[j]?=some u:=hj
 have hl:j<16:=by have:=(List.getElem?_eq_some_iff.1 hj').1;simpa using this
 have:j=0∨j=1∨j=2∨j=3∨j=4∨j=5∨j=6∨j=7∨j=8∨j=9∨j=10∨j=11∨j=12∨j=13∨j=14∨j=15:=by omega
 rcases this with rfl | rfl | rfl | rfl | rfl | rfl | rfl | rfl | rfl | rfl | rfl | rfl | rfl | rfl | rfl | rfl<;>(simp at hj';subst hj';assumption)
theorem note_plain (w:World) (t nt:Int) (ht:IntR t) (hn:IntR nt):NoteOk w ⟨t,nilV,0,nilV,0,nilV,0,nilV,0,nilV,nt,nilV,0,nilV,nilV,nilV⟩ :=
 ⟨ht,fun _=>⟨[],Byt.nil _ _ _ (Nat.zero_le _)⟩,fun _=>⟨[],Byt.nil _ _ _ (Nat.zero_le _)⟩,fun _=>Nat.zero_le _,fun _=>Nat.zero_le _⟩
theorem MIn.new (w:World) (i r nx x f m:Int) (v:Value) (T:TypeId):MIn (w.alloc (.cells #[.int .u64 i,.int .u64 r,.int .i64 nx,.int .i64 x,.int .i64 f,.int .u32 m,v] T)) w.heap.size i r nx x f m v :=
 ⟨by rw [World.cell?_alloc_at _ _ _ _ rfl];rfl,by rw [World.cell?_alloc_at _ _ _ _ rfl];rfl,by rw [World.cell?_alloc_at _ _ _ _ rfl];rfl,by rw [World.cell?_alloc_at _ _ _ _ rfl];rfl,by rw [World.cell?_alloc_at _ _ _ _ rfl];rfl,by rw [World.cell?_alloc_at _ _ _ _ rfl];rfl,by rw [World.cell?_alloc_at _ _ _ _ rfl];rfl,fun j=>frozen_of_row _ _ _ _ _ (heap_alloc_new _ _)⟩
set_option maxHeartbeats 800000 in
theorem reply_missing (w:World):Calls Tryz.prog 12 #[.int .i64 8] w fun e w'=>e=.returned (.tuple #[.int .i64 7,.bool true])∧w'=w:=by
 go_enter Tryz.func12,Tryz.ntmps12
 go_wp2
 go_ret2
 exact ⟨rfl,rfl⟩
def venP:Pv:=⟨43,nilV,0,nilV,0,nilV,0,nilV,0,nilV,0,nilV,0,nilV,nilV,nilV⟩
def cooP:Pv:=⟨41,nilV,0,nilV,0,nilV,0,nilV,0,nilV,16390,nilV,0,nilV,nilV,nilV⟩
theorem check_ven:checkM 34 8 [venP]=8:=by kernel_rfl
theorem check_coo:checkM 34 8 [cooP]=0:=by kernel_rfl
set_option maxHeartbeats 1600000 in
set_option maxRecDepth 100000 in
theorem awake07_any (w:World):Calls Tryz.prog 4 #[] w fun e w'=>e=.returned (.bool true)∧Below w.heap.size w w':=by
 have HRP:=hidden (fun W=>reply_missing W)
 go_enter Tryz.func4,Tryz.ntmps4
 go_upto_region 2 with fail
 generalize hw1:(w.alloc (.cells _ 49)).alloc (.cells _ 32)=w1
 have hv1:PvIn w1 w.heap.size venP:=by
  rw [←hw1]
  exact (PvIn.new w venP 49).alloc _
 have hm1:MIn w1 (w.heap.size+1) 1 0 0 34 8 0 (.slice (some ⟨w.heap.size,0,none⟩) 1 1):=by
  have:=MIn.new (w.alloc (.cells #[.int .i64 venP.t,.slice venP.pr.p venP.pr.n venP.pr.c,.int .i64 venP.eg,.slice venP.ed.p venP.ed.n venP.ed.c,.int .i64 venP.ik,.slice venP.id.p venP.id.n venP.id.c,.int .i64 venP.am,.slice venP.ad.p venP.ad.n venP.ad.c,.int .i64 venP.np,.slice venP.ns.p venP.ns.n venP.ns.c,.int .i64 venP.nt,.slice venP.nd.p venP.nd.n venP.nd.c,.int .i64 venP.dp,.slice venP.ds.p venP.ds.n venP.ds.c,.slice venP.se.p venP.se.n venP.se.c,.slice venP.da.p venP.da.n venP.da.c] 49)) 1 0 0 34 8 0 (.slice (some ⟨w.heap.size,0,none⟩) 1 1) 32
  rw [World.size_alloc] at this
  rw [←hw1]
  exact this
 have hb1:Below w.heap.size w w1:=by
  rw [←hw1]
  exact ((Below.refl _ w).alloc (Nat.le_refl _) _).alloc (by simp) _
 have hne:¬ w.heap.size+1=w.heap.size:=by omega
 have hck:=check_any 1 0 0 34 8 0 _ 1 1 [venP] w1 (rd_one hv1 (note_plain w1 43 0 (by unfold IntR;omega) (by unfold IntR;omega))) (by omega) (by unfold IntR;omega)
 rw [check_ven] at hck
 have HCK:=hidden hck
 have HV1:=hidden hv1
 have HM1:=hidden hm1
 have HB1:=hidden hb1
 clear hw1 hck
 obtain ⟨m0,m1,m2,m3,m4,m5,m6,mf⟩:=hm1
 clear hv1 hb1
 go_upto_region 3 with (first
  | (go_at_call 13;(with_reducible refine (HCK.out).mono ?_);rintro e w2 ⟨rfl,hb2⟩;have HB2:=hidden hb2;clear hb2)
  | (go_at_call 12;(with_reducible refine (HRP.out w2).mono ?_);rintro e w3 ⟨rfl,rfl⟩)
  | fail)
 have hv2:=HV1.out.below HB2.out
 have hm2:=HM1.out.below HB2.out
 have hb2:=HB1.out.trans (HB2.out.mono HB1.out.size)
 have hset:=setPv_in hv2 cooP
 have hgs:=setPv_grown w3 w.heap.size cooP
 have hms:=hm2.grown hgs (by simp)
 have hbs:=hb2.grown hgs hb2.size (fun q e=>by cases e;exact Nat.le_refl _)
 have hck2:=check_any 1 0 0 34 8 0 _ 1 1 [cooP] _ (rd_one hset (note_plain _ 41 16390 (by unfold IntR;omega) (by unfold IntR;omega))) (by omega) (by unfold IntR;omega)
 rw [check_coo] at hck2
 obtain ⟨y0,y1,y2,y3,y4,y5,y6,y7,y8,y9,y10,y11,y12,y13,y14,y15,z0,z1,z2,z3,z4,z5,z6,z7,z8,z9,z10,z11,z12,z13,z14,z15,zf⟩:=hv2.any
 have n6:=hm2.c6
 have HMS:=hidden hms
 have HBS:=hidden hbs
 have HCK2:=hidden hck2
 clear m0 m1 m2 m3 m4 m5 m6 mf hms hbs hck2 hset hgs hm2 hb2 HCK HV1 HM1 HB1 HB2 hv2
 go_upto_region 4 with fail
 generalize hwx:(World.setCell _ ⟨w.heap.size,15,none⟩ _)=wx
 have hwx':setPv w3 w.heap.size cooP=wx:=hwx
 rw [hwx'] at HMS HBS HCK2
 obtain ⟨m0,m1,m2,m3,m4,m5,m6,mf⟩:=HMS.out
 clear y0 y1 y2 y3 y4 y5 y6 y7 y8 y9 y10 y11 y12 y13 y14 y15 z0 z1 z2 z3 z4 z5 z6 z7 z8 z9 z10 z11 z12 z13 z14 z15 zf n6 hwx hwx' mf
 go_wp2_with (first
  | (go_at_call 13;(with_reducible refine (HCK2.out).mono ?_);rintro e w4 ⟨rfl,hb4⟩;have HB4:=hidden hb4;clear hb4)
  | fail)
 go_ret
 exact ⟨rfl,HBS.out.trans (HB4.out.mono HBS.out.size)⟩
end Go.Proofs.YtgpigjoonhghhaaGreat
