/-
 What the document's own Same says of two lists of proposals that read alike.
 Rows of payloads in memory, and the small functions of package message that look at one payload or search a row.
 What the document's own Build of chains returns: the bytes of the payloads, or the first error.
-/
import Derived.Test.YtgpigjoonhghhaaGreatQZ0
import Derived.Test.YtgpigjoonhghhaaGreatQZ2
import Derived.Test.YtgpigjoonhghhaaGreatQZ1
import Derived.Deep.QuietTactic
import Derived.BigQuiet
import Derived.Deep.Cut
import Derived.Deep.CutBlock
import Derived.Deep.RegionHeld3
namespace Go.Proofs.YtgpigjoonhghhaaGreat
open Go.RowKit
set_option linter.unusedVariables false
end Go.Proofs.YtgpigjoonhghhaaGreat

namespace Go.Proofs.YtgpigjoonhghhaaGreat
open Go.RowKit
set_option linter.unusedVariables false
def IntR (z:Int):Prop:=-9223372036854775808≤z∧z≤9223372036854775807
def KPv:KindR Pv where
 e:=49
 k:=16
 cs x:=[.int .i64 x.t,.slice x.pr.p x.pr.n x.pr.c,.int .i64 x.eg,.slice x.ed.p x.ed.n x.ed.c,.int .i64 x.ik,.slice x.id.p x.id.n x.id.c,.int .i64 x.am,.slice x.ad.p x.ad.n x.ad.c,.int .i64 x.np,.slice x.ns.p x.ns.n x.ns.c,.int .i64 x.nt,.slice x.nd.p x.nd.n x.nd.c,.int .i64 x.dp,.slice x.ds.p x.ds.n x.ds.c,.slice x.se.p x.se.n x.se.c,.slice x.da.p x.da.n x.da.c]
 len _:=rfl
 one x u hu:=by
  simp at hu
  rcases hu with rfl | rfl | rfl | rfl | rfl | rfl | rfl | rfl | rfl | rfl | rfl | rfl | rfl | rfl | rfl | rfl<;>rfl
 pos:=by decide
structure NoteOk (w:World) (x:Pv):Prop where
 t:IntR x.t
 ns:x.t=41→∃ xs,Byt w x.ns.p x.ns.n x.ns.c xs
 nd:x.t=41→∃ xs,Byt w x.nd.p x.nd.n x.nd.c xs
 sn:x.t=41→x.ns.n≤140737488355328
 dn:x.t=41→x.nd.n≤140737488355328
def DPv:ReadN Pv where
 ok:=NoteOk
 keep h k:=⟨h.t,fun e=>by obtain ⟨xs,h⟩:=h.ns e;exact ⟨xs,h.keep k⟩,fun e=>by obtain ⟨xs,h⟩:=h.nd e;exact ⟨xs,h.keep k⟩,h.sn,h.dn⟩
def rep (t:Int):Bool:=t == 41 || t == 43 || t == 37 || t == 42
set_option maxHeartbeats 800000 in
theorem repeats_any (t:Int) (w:World):Calls Tryz.prog 28 #[.int .i64 t] w fun e w'=>e=.returned (.bool (rep t))∧w'=w:=by
 by_cases h1:t=41
 ·subst h1
  go_enter Tryz.func28,Tryz.ntmps28
  go_wp2
  go_ret
  exact ⟨rfl,rfl⟩
 by_cases h2:t=43
 ·subst h2
  go_enter Tryz.func28,Tryz.ntmps28
  go_wp2
  go_ret
  exact ⟨rfl,rfl⟩
 by_cases h3:t=37
 ·subst h3
  go_enter Tryz.func28,Tryz.ntmps28
  go_wp2
  go_ret
  exact ⟨rfl,rfl⟩
 by_cases h4:t=42
 ·subst h4
  go_enter Tryz.func28,Tryz.ntmps28
  go_wp2
  go_ret
  exact ⟨rfl,rfl⟩
 have hr:rep t=false:=by simp [rep,h1,h2,h3,h4]
 go_enter Tryz.func28,Tryz.ntmps28
 go_wp2
 go_ret
 exact ⟨by first | rfl | (rw [hr];rfl),rfl⟩
def tells (x:Pv):Bool:=x.t == 41 && decide (x.nt<16384)
set_option maxHeartbeats 800000 in
theorem tells_any (x:Pv) (w:World):Calls Tryz.prog 53 #[(.agg #[.int .i64 x.t,.slice x.pr.p x.pr.n x.pr.c,.int .i64 x.eg,.slice x.ed.p x.ed.n x.ed.c,.int .i64 x.ik,.slice x.id.p x.id.n x.id.c,.int .i64 x.am,.slice x.ad.p x.ad.n x.ad.c,.int .i64 x.np,.slice x.ns.p x.ns.n x.ns.c,.int .i64 x.nt,.slice x.nd.p x.nd.n x.nd.c,.int .i64 x.dp,.slice x.ds.p x.ds.n x.ds.c,.slice x.se.p x.se.n x.se.c,.slice x.da.p x.da.n x.da.c])] w fun e w'=>e=.returned (.bool (tells x))∧Below w.heap.size w w':=by
 by_cases h1:x.t=41
 ·by_cases h2:x.nt<16384
  ·have hr:tells x=true:=by simp [tells,h1,h2]
   go_enter Tryz.func53,Tryz.ntmps53
   go_wp2
   go_ret
   exact ⟨by first | rfl | (rw [hr];rfl),(Below.refl _ _).alloc (Nat.le_refl _) _⟩
  ·have hr:tells x=false:=by simp [tells,h1,h2]
   go_enter Tryz.func53,Tryz.ntmps53
   go_wp2
   go_ret
   exact ⟨by first | rfl | (rw [hr];rfl),(Below.refl _ _).alloc (Nat.le_refl _) _⟩
 ·have hr:tells x=false:=by simp [tells,h1]
  go_enter Tryz.func53,Tryz.ntmps53
  go_wp2
  go_ret
  exact ⟨by first | rfl | (rw [hr];rfl),(Below.refl _ _).alloc (Nat.le_refl _) _⟩
def firstAt (f:Pv→Bool):List Pv→Nat→Int
 | [],_=>-1
 | x :: l,j=>if f x then j else firstAt f l (j+1)
theorem firstAt_neg (f:Pv→Bool) (l:List Pv) (j:Nat):decide (0≤firstAt f l j)=l.any f:=by
 induction l generalizing j with
 | nil=>rfl
 | cons x l ih =>
  unfold firstAt
  cases hx:f x with
  | true=>simp [hx]
  | false=>simp [hx,ih]
theorem RdG.drop_cons {w:World} {p:Option Addr} {n c j:Nat} {l:List Pv} (h:RdG KPv DPv w p n c l) (hj:j<n) : ∃ g x,p=some ⟨g,0,none⟩∧l[j]?=some x∧l.drop j=x :: l.drop (j+1)∧NoteOk w x∧(∀ i u,(KPv.cs x)[i]?=some u→w.cell? ⟨g,j*16+i,none⟩=some u):=by
 have hl:j<l.length:=by rw [h.len];exact hj
 obtain ⟨g,e,hc,hd⟩:=h.cell j hl
 exact ⟨g,l[j],e,List.getElem?_eq_getElem hl,List.drop_eq_getElem_cons hl,hd,hc⟩
set_option maxHeartbeats 1600000 in
set_option maxRecDepth 100000 in
theorem indexFunc_any (p:Option Addr) (n c:Nat) (l:List Pv) (w:World) (h:RdG KPv DPv w p n c l) :
  Calls Tryz.prog 70 #[.slice p n c,.func (.func 53) #[] #[]] w fun e w'=>e=.returned (.int .i64 (firstAt tells l 0))∧Below w.heap.size w w':=by
 have hn:=h.le
 have H:=hidden h
 clear h
 obtain ⟨R,hR⟩ : ∃ R,firstAt tells l 0=R:=⟨_,rfl⟩
 have HR:Is (firstAt tells (l.drop 0) 0) R:=⟨by simpa using hR⟩
 rw [hR]
 clear hR
 go_enter Tryz.func70,Tryz.ntmps70
 go_wp2_with fail
 go_loopw [8] (fun i wr=>∃ j:Nat,j≤n∧i=.int .i64 j∧Is (firstAt tells (l.drop j) j) R∧Below w.heap.size w wr) (fun i _=>n - (intOf i).toNat)
 case atStart=>exact ⟨0,by omega,rfl,HR,Below.refl _ _⟩
 case round =>
  obtain ⟨j,hj,rfl,hrel,hb⟩:=hrel
  have HB:=hidden hb
  clear hb
  by_cases hlt:j<n
  ·have hlt':(j:Int)<n:=by omega
   obtain ⟨g,x,rfl,hx,hdr,hok,hc⟩:=(H.out.below HB.out).drop_cons hlt
   have c0:=hc 0 _ rfl
   have c1:=hc 1 _ rfl
   have c2:=hc 2 _ rfl
   have c3:=hc 3 _ rfl
   have c4:=hc 4 _ rfl
   have c5:=hc 5 _ rfl
   have c6:=hc 6 _ rfl
   have c7:=hc 7 _ rfl
   have c8:=hc 8 _ rfl
   have c9:=hc 9 _ rfl
   have c10:=hc 10 _ rfl
   have c11:=hc 11 _ rfl
   have c12:=hc 12 _ rfl
   have c13:=hc 13 _ rfl
   have c14:=hc 14 _ rfl
   have c15:=hc 15 _ rfl
   simp only [Nat.add_zero] at c0
   have hf:=hrel.eq
   rw [hdr] at hf
   unfold firstAt at hf
   have HT:=hidden (tells_any x)
   generalize tells x=b at hf HT
   clear hrel hdr hx hok hc
   cases b with
   | true =>
    have HF:Is (j:Int) R:=⟨by simpa using hf⟩
    clear hf
    go_wp2_with (first
     | (go_at_call 53;(with_reducible refine (HT.out _).mono ?_);rintro _ w1 ⟨rfl,hb1⟩;have HB1:=hidden (HB.out.trans (hb1.mono HB.out.size));clear hb1)
     | fail)
    go_ret
    exact ⟨by rw [←HF.eq];rfl,HB1.out⟩
   | false =>
    have HF:Is (firstAt tells (l.drop (j+1)) (j+1)) R:=⟨by simpa using hf⟩
    clear hf
    go_wp2_with (first
     | (go_at_call 53;(with_reducible refine (HT.out _).mono ?_);rintro _ w1 ⟨rfl,hb1⟩;have HB1:=hidden (HB.out.trans (hb1.mono HB.out.size));clear hb1)
     | fail)
    go_roundw
    case rel=>exact ⟨j+1,by omega,by go_num,HF,HB1.out⟩
    case measure=>simp [intOf];omega
  ·have hlt':¬ (j:Int)<n:=by omega
   have hd:l.drop j=[]:=List.drop_eq_nil_of_le (by rw [H.out.len];omega)
   have hf:=hrel.eq
   rw [hd] at hf
   have HF:Is (-1:Int) R:=⟨hf⟩
   clear hf hd hrel
   go_wp2
   go_ret
   exact ⟨by rw [←HF.eq];rfl,HB.out⟩
end Go.Proofs.YtgpigjoonhghhaaGreat

namespace Go.Proofs.YtgpigjoonhghhaaGreat
open Go.RowKit
set_option linter.unusedVariables false
def BuiltC (w:World) (k:Int) (L:List Int) (E:Int) (e:Ending) (w':World):Prop:=∃ v,e=.returned (.tuple #[.int .i64 k,v,.int .i64 E])∧Own w' w.heap.size 5 v L∧Below w.heap.size w w'
theorem built_many (l:List Raw) (last:Int) (h:40<l.length):buildC l last=(0,[],10):=by rw [buildC,if_pos h]
theorem built_err (l:List Raw) (last E:Int) (h:¬ 40<l.length) (he:errC l=E) (h0:E≠0):buildC l last=(0,[],E):=by
 subst he
 rw [buildC,if_neg h,if_pos h0]
theorem built_last (l:List Raw) (last:Int) (h:¬ 40<l.length) (he:errC l=0) (hl:last<0∨255<last):buildC l last=(0,[],5):=by
 rw [buildC,if_neg h,if_neg (by omega),if_pos hl]
theorem built_order (l:List Raw) (last:Int) (h:¬ 40<l.length) (he:errC l=0) (hl:¬ (last<0∨255<last)) (h0:last≠0) (hn:endsC l=false):buildC l last=(0,[],7):=by
 rw [buildC,if_neg h,if_neg (by omega),if_neg hl,if_pos ⟨h0,hn⟩]
theorem built_ok (l:List Raw) (last:Int) (h:¬ 40<l.length) (he:errC l=0) (hl:¬ (last<0∨255<last)) (h0:last=0∨endsC l=true):buildC l last=(nextC 0 l,encC last l,0):=by
 rw [buildC,if_neg h,if_neg (by omega),if_neg hl,if_neg]
 rintro ⟨h1,h2⟩
 rcases h0 with h0 | h0
 ·exact h1 h0
 ·rw [h0] at h2
  cases h2
structure AtR (w:World) (l:List RawP) (g i:Nat) (k:Int) (c:Bool) (pb:Option Addr) (nb cb:Nat) (b:List Int):Prop where
 hk:w.cell? ⟨g,i*3,none⟩=some (.int .i64 k)
 hc:w.cell? ⟨g,i*3+1,none⟩=some (.bool c)
 hb:w.cell? ⟨g,i*3+2,none⟩=some (.slice pb nb cb)
 byt:Byt w pb nb cb b
 raw:(l.map RawP.raw)[i]?=some ⟨k,c,b⟩
theorem RdR.get {w:World} {p:Option Addr} {n c:Nat} {l:List RawP} (h:RdR w p n c l) (i:Nat) (hi:i<n) : ∃ g k cc pb nb cb b,p=some ⟨g,0,none⟩∧AtR w l g i k cc pb nb cb b:=by
 have hl:i<l.length:=by rw [h.len];exact hi
 obtain ⟨g,e,h0,h1,h2,h3⟩:=h.elem i hl
 exact ⟨g,_,_,_,_,_,_,e,h0,h1,h2,h3,by simp [hl,RawP.raw]⟩
theorem AtR.below {w w':World} {l:List RawP} {g i:Nat} {k:Int} {c:Bool} {pb:Option Addr} {nb cb:Nat} {b:List Int} (h:AtR w l g i k c pb nb cb b) (hb:Below w.heap.size w w'):AtR w' l g i k c pb nb cb b :=
 ⟨cell_below hb _ _ h.hk,cell_below hb _ _ h.hc,cell_below hb _ _ h.hb,h.byt.below hb,h.raw⟩
theorem AtR.err {w:World} {l:List RawP} {g i:Nat} {k:Int} {c:Bool} {pb:Option Addr} {nb cb:Nat} {b:List Int} (h:AtR w l g i k c pb nb cb b) {n:Nat} (hn:l.length=n) :
  errC ((l.map RawP.raw).drop i)=if k<1∨255<k then 5 else if 65531<nb then 11 else if lastK k=true∧i+1<n then 7 else errC ((l.map RawP.raw).drop (i+1)):=by
 obtain ⟨hi,he⟩:=List.getElem?_eq_some_iff.1 h.raw
 rw [err_step i hi,he]
 have:b.length=nb:=h.byt.len
 simp only [this,List.length_map,hn]
theorem AtR.enc {w:World} {l:List RawP} {g i:Nat} {k:Int} {c:Bool} {pb:Option Addr} {nb cb:Nat} {b:List Int} (h:AtR w l g i k c pb nb cb b) (last:Int) :
  encC last ((l.map RawP.raw).drop i)=oneC (nextC last ((l.map RawP.raw).drop (i+1))) ⟨k,c,b⟩++encC last ((l.map RawP.raw).drop (i+1)):=by
 obtain ⟨hi,he⟩:=List.getElem?_eq_some_iff.1 h.raw
 rw [enc_step i hi,he]
theorem AtR.next {w:World} {l:List RawP} {g i:Nat} {k:Int} {c:Bool} {pb:Option Addr} {nb cb:Nat} {b:List Int} (h:AtR w l g (i+1) k c pb nb cb b) (last:Int):nextC last ((l.map RawP.raw).drop (i+1))=k:=by
 obtain ⟨hi,he⟩:=List.getElem?_eq_some_iff.1 h.raw
 rw [next_more i hi,he]
theorem err_at {l:List Raw} (h:errC l=0) (i:Nat) (r:Raw) (hr:l[i]?=some r):1≤r.k∧r.k≤255∧r.b.length≤65531:=by
 induction l generalizing i with
 | nil=>simp at hr
 | cons a l ih =>
  obtain ⟨h1,h2,h3,_,h5⟩:=errC_cons h
  cases i with
  | zero =>
   simp at hr
   subst hr
   exact ⟨h1,h2,h3⟩
  | succ i=>exact ih h5 i (by simpa using hr)
theorem AtR.good {w:World} {l:List RawP} {g i:Nat} {k:Int} {c:Bool} {pb:Option Addr} {nb cb:Nat} {b:List Int} (h:AtR w l g i k c pb nb cb b) (he:errC (l.map RawP.raw)=0):1≤k∧k≤255∧nb≤65531:=by
 have:=err_at he i _ h.raw
 have hl:b.length=nb:=h.byt.len
 simp only [hl] at this
 exact this
theorem rput_two (p:Option Addr) (n c:Nat) (xs:List Int) (w:World) (h:Byt w p n c xs) (hb:n≤140737488355000) (v:Int) (hv:0≤v∧v≤18446744073709551615) :
  Calls Tryz.prog 20 #[.slice p n c,.int .u64 v,.int .i64 2] w (BytesNew w (xs++be 2 v)):=rput_yes p n c xs w h hb v hv 2 (by omega) (by omega)
theorem oneC_form (next:Int) (k:Int) (c:Bool) (b:List Int) (xs:List Int) (nb:Nat) (h:b.length=nb):xs++oneC next ⟨k,c,b⟩=(xs++[next % 256,if c then 128 else 0]++be 2 ((nb:Int)+4))++b:=by
 subst h
 simp [oneC]
theorem oneC_rng (next:Int) (k:Int) (c:Bool) (b:List Int) (h : ∀ x∈b,0≤x∧x≤255) : ∀ x∈oneC next ⟨k,c,b⟩,0≤x∧x≤255:=by
 refine rng_append ?_ (rng_append (be_rng _ _) h)
 intro x hx
 simp at hx
 rcases hx with rfl | rfl
 ·omega
 ·split<;>omega
set_option maxHeartbeats 1600000 in
set_option maxRecDepth 100000 in
theorem rbuildC_any (p:Option Addr) (n c:Nat) (l:List RawP) (last:Int) (w:World) (h:RdR w p n c l) (k:Int) (L:List Int) (E:Int) (hb:buildC (l.map RawP.raw) last=(k,L,E)) :
  Calls Tryz.prog 8 #[.slice p n c,.int .i64 last] w (BuiltC w k L E):=by
 obtain ⟨i0,hi0,hz0,hz1,hz2⟩:=info_parts Tryz.infoByte
 have hn:=h.le
 have HR:=hidden h
 have HL:=hidden h.len
 have HB:=hidden hb
 clear h hb
 by_cases h40:40<n
 ·have hb:=built_many (l.map RawP.raw) last (by rw [List.length_map,HL.out];exact h40)
  rw [HB.out] at hb
  simp at hb
  obtain ⟨rfl,rfl,rfl⟩:=hb
  go_enter Tryz.func8,Tryz.ntmps8
  go_wp2
  go_ret3
  exact ⟨_,rfl,Own.nil _ _ _,Below.refl _ _⟩
 have h40':¬ 40<(l.map RawP.raw).length:=by rw [List.length_map,HL.out];exact h40
 have H40:=hidden h40'
 clear h40'
 go_enter Tryz.func8,Tryz.ntmps8
 go_wp2
 go_loop [7] (fun i=>∃ j:Nat,j≤n∧i=.int .i64 j∧errC (l.map RawP.raw)=errC ((l.map RawP.raw).drop j)) (fun i=>n - (intOf i).toNat)
 case atStart=>exact ⟨0,by omega,rfl,by simp⟩
 case round =>
  obtain ⟨j,hj,rfl,herr⟩:=hrel
  by_cases hlt:j<n
  ·obtain ⟨g,kk,cc,pb,nb,cb,b,rfl,hat⟩:=HR.out.get j hlt
   have e1:=hat.err HL.out
   rw [←herr] at e1
   have HE:=hidden e1
   have c0:=hat.hk
   have c2:=hat.hb
   have hnb:=hat.byt.le
   clear hat e1 herr
   by_cases k1:kk<1
   ·have hb:=built_err (l.map RawP.raw) last 5 H40.out (by rw [HE.out,if_pos (Or.inl k1)]) (by omega)
    rw [HB.out] at hb
    simp at hb
    obtain ⟨rfl,rfl,rfl⟩:=hb
    go_wp2
    go_ret3
    exact ⟨_,rfl,Own.nil _ _ _,Below.refl _ _⟩
   by_cases k2:255<kk
   ·have hb:=built_err (l.map RawP.raw) last 5 H40.out (by rw [HE.out,if_pos (Or.inr k2)]) (by omega)
    rw [HB.out] at hb
    simp at hb
    obtain ⟨rfl,rfl,rfl⟩:=hb
    go_wp2
    go_ret3
    exact ⟨_,rfl,Own.nil _ _ _,Below.refl _ _⟩
   by_cases k3:65531<nb
   ·have hb:=built_err (l.map RawP.raw) last 11 H40.out (by rw [HE.out,if_neg (by omega),if_pos k3]) (by omega)
    rw [HB.out] at hb
    simp at hb
    obtain ⟨rfl,rfl,rfl⟩:=hb
    go_wp2
    go_ret3
    exact ⟨_,rfl,Own.nil _ _ _,Below.refl _ _⟩
   by_cases k4:lastK kk=true
   ·by_cases k5:j+1<n
    ·have hb:=built_err (l.map RawP.raw) last 7 H40.out (by rw [HE.out,if_neg (by omega),if_neg k3,if_pos ⟨k4,k5⟩]) (by omega)
     rw [HB.out] at hb
     simp at hb
     obtain ⟨rfl,rfl,rfl⟩:=hb
     have k6:(j:Int)<(n:Int) - 1:=by omega
     go_wp2_with (go_at_call 19;(with_reducible refine (last_any kk _).mono ?_);rintro e w' ⟨rfl,rfl⟩)
     go_ret3
     exact ⟨_,rfl,Own.nil _ _ _,Below.refl _ _⟩
    ·have k6:¬ (j:Int)<(n:Int) - 1:=by omega
     have he:=HE.out
     rw [if_neg (by omega),if_neg k3,if_neg (fun h=>k5 h.2)] at he
     have HE2:=hidden he
     clear he
     go_wp2_with (go_at_call 19;(with_reducible refine (last_any kk _).mono ?_);rintro e w' ⟨rfl,rfl⟩)
     go_round
     case rel=>exact ⟨j+1,by omega,by go_num,HE2.out⟩
     case measure=>simp [intOf];omega
   ·have k5:lastK kk=false:=by simpa using k4
    have he:=HE.out
    rw [if_neg (by omega),if_neg k3,if_neg (fun h=>k4 h.1)] at he
    have HE2:=hidden he
    clear he k4
    go_wp2_with (go_at_call 19;(with_reducible refine (last_any kk _).mono ?_);rintro e w' ⟨rfl,rfl⟩)
    go_round
    case rel=>exact ⟨j+1,by omega,by go_num,HE2.out⟩
    case measure=>simp [intOf];omega
  ·obtain rfl:j=n:=by omega
   have herr0:errC (l.map RawP.raw)=0:=by rw [herr,err_end _ (by rw [List.length_map,HL.out];exact Nat.le_refl _)]
   have HE:=hidden herr0
   clear herr herr0
   by_cases hl0:last<0∨255<last
   ·have hb:=built_last (l.map RawP.raw) last H40.out HE.out hl0
    rw [HB.out] at hb
    simp at hb
    obtain ⟨rfl,rfl,rfl⟩:=hb
    rcases hl0 with hl0 | hl0
    ·go_wp2
     go_ret3
     exact ⟨_,rfl,Own.nil _ _ _,Below.refl _ _⟩
    ·go_wp2
     go_ret3
     exact ⟨_,rfl,Own.nil _ _ _,Below.refl _ _⟩
   have hl1:¬ last<0:=by omega
   have hl2:¬ 255<last:=by omega
   have HL0:=hidden hl0
   clear hl0
   rcases Nat.eq_zero_or_pos j with h0 | h0
   ·subst h0
    have hnil:l=[]:=List.eq_nil_of_length_eq_zero HL.out
    subst hnil
    by_cases hz:last=0
    ·subst hz
     have hb:=built_ok ([].map RawP.raw) 0 H40.out HE.out HL0.out (Or.inl rfl)
     rw [HB.out] at hb
     simp [nextC,encC] at hb
     obtain ⟨rfl,rfl,rfl⟩:=hb
     clear hl1 hl2
     go_wp2
     go_ret3
     exact ⟨_,rfl,Own.nil _ _ _,Below.refl _ _⟩
    ·have hb:=built_order ([].map RawP.raw) last H40.out HE.out HL0.out hz rfl
     rw [HB.out] at hb
     simp at hb
     obtain ⟨rfl,rfl,rfl⟩:=hb
     have hz1:(last != 0)=true:=by simpa using hz
     clear hz
     go_wp2
     go_ret3
     exact ⟨_,rfl,Own.nil _ _ _,Below.refl _ _⟩
   obtain ⟨g,kl,cl,pl,nl,cbl,bl,rfl,hatl⟩:=HR.out.get (j - 1) (by omega)
   have hends:endsC (l.map RawP.raw)=lastK kl:=by
    rw [ends_last _ (by rw [List.length_map,HL.out];exact h0)]
    obtain ⟨hi,he⟩:=List.getElem?_eq_some_iff.1 hatl.raw
    have:(l.map RawP.raw).length - 1=j - 1:=by rw [List.length_map,HL.out]
    simp only [this,he]
   have cl0:=hatl.hk
   obtain ⟨g',kf,cf,pf,nf,cbf,bf,hg',hatf⟩:=HR.out.get 0 h0
   simp at hg'
   subst hg'
   have cf0:=hatf.hk
   have hnx:nextC 0 (l.map RawP.raw)=kf:=by
    obtain ⟨hi,he⟩:=List.getElem?_eq_some_iff.1 hatf.raw
    cases l with
    | nil=>simp at hi
    | cons a l=>simpa [nextC] using congrArg Raw.k he
   have HNX:=hidden hnx
   have HEN:=hidden hends
   have ej:(j:Int) - 1=((j - 1:Nat):Int):=by omega
   clear hatl hatf hnx hends
   have go2:last=0∨lastK kl=true→(k,L,E)=(kf,encC last (l.map RawP.raw),0):=by
    intro hh
    have hb:=built_ok (l.map RawP.raw) last H40.out HE.out HL0.out (by rcases hh with hh | hh;exact Or.inl hh;exact Or.inr (by rw [HEN.out];exact hh))
    rw [HB.out,HNX.out] at hb
    exact hb
   have HG:=hidden go2
   clear go2
   by_cases hz:last≠0∧lastK kl=false
   ·have hb:=built_order (l.map RawP.raw) last H40.out HE.out HL0.out hz.1 (by rw [HEN.out];exact hz.2)
    rw [HB.out] at hb
    simp at hb
    obtain ⟨rfl,rfl,rfl⟩:=hb
    have hz1:(last != 0)=true:=by simpa using hz.1
    have hz2:=hz.2
    clear hz
    go_wp2_with (go_at_call 19;(with_reducible refine (last_any kl _).mono ?_);rintro e w' ⟨rfl,rfl⟩)
    go_ret3
    exact ⟨_,rfl,Own.nil _ _ _,Below.refl _ _⟩
   have hz':last=0∨lastK kl=true:=by
    by_cases h0:last=0
    ·exact Or.inl h0
    ·exact Or.inr (by simpa using fun hk=>hz ⟨h0,hk⟩)
   have heq:=HG.out hz'
   simp at heq
   obtain ⟨rfl,rfl,rfl⟩:=heq
   clear hz ej
   have hjpos:(j == 0)=false:=by simp;omega
   have za:(last != 0)=true∧lastK kl=true∨(last != 0)=false:=by
    rcases hz' with h | h
    ·exact Or.inr (by simp [h])
    ·by_cases h0:last=0
     ·exact Or.inr (by simp [h0])
     ·exact Or.inl ⟨by simpa using h0,h⟩
   have HZ:=hidden hz'
   clear hz' hjpos
   go_upto_region 14 with fail
   go_cut [81] from 64 to 81 (fun b w'=>b=.bool false∧w=w')
   case first =>
    rcases za with ⟨za,zb⟩ | za
    all_goals
     go_wp2_with (go_at_call 19;(with_reducible refine (last_any kl _).mono ?_);rintro e w' ⟨rfl,rfl⟩)
     go_meet
     case rel=>first | exact ⟨rfl,rfl⟩ | exact ⟨by simp;omega,rfl⟩
   case rest =>
    obtain ⟨rfl,rfl⟩:=hcut
    have HFI:=hidden cf0
    clear cf0 cl0 za
    have hjpos:((j:Int) == 0)=false:=by simp;omega
    go_wp2
    go_loopw [8,9] (fun u i wr=>∃ t:Nat,t≤j∧i=.int .i64 t∧∃ xs:List Int,xs++encC last ((l.map RawP.raw).drop t)=encC last (l.map RawP.raw)∧xs.length≤t*65535∧(∀ x∈xs,0≤x∧x≤255)∧Own wr w.heap.size 5 u xs∧Below w.heap.size w wr) (fun _ i _=>j - (intOf i).toNat)
    case atStart=>exact ⟨0,by omega,rfl,[],by simp,by simp,by simp,Own.nil _ _ _,Below.refl _ _⟩
    case round =>
     obtain ⟨t,ht,rfl,xs,hxs,hxl,hxr,ho,hbl⟩:=hrel
     have HO:=hidden ho
     have HBL:=hidden hbl
     by_cases hlt:t<j
     ·obtain ⟨g2,kk,cc,pb,nb,cb,b,hg2,hat⟩:=HR.out.get t hlt
      simp at hg2
      subst hg2
      obtain ⟨q1,q2,q3⟩:=hat.good HE.out
      have hst:=hat.enc last
      rw [hst] at hxs
      have hat2:=hat.below hbl
      have c0:=hat2.hk
      have c1:=hat2.hc
      have c2:=hat2.hb
      have HBY:=hidden hat.byt
      have hgw:=World.block_lt_of_cell? w _ hat.hb
      obtain ⟨nx,hnx,hn0,hn1,hnc⟩ : ∃ nx,nextC last ((l.map RawP.raw).drop (t+1))=nx∧0≤nx∧nx≤255∧((t:Int)<(j:Int) - 1∧wr.cell? ⟨g,(t+1)*3,none⟩=some (.int .i64 nx)∨¬ ((t:Int)<(j:Int) - 1)∧nx=last):=by
       by_cases h1:t+1<j
       ·obtain ⟨g3,k3,c3,p3,n3,cb3,b3,hg3,hat3⟩:=HR.out.get (t+1) h1
        simp at hg3
        subst hg3
        obtain ⟨r1,r2,r3⟩:=hat3.good HE.out
        exact ⟨k3,hat3.next last,by omega,r2,Or.inl ⟨by omega,(hat3.below hbl).hk⟩⟩
       ·exact ⟨last,next_end t (by rw [List.length_map,HL.out];omega),by omega,by omega,Or.inr ⟨by omega,rfl⟩⟩
      rw [hnx] at hxs
      have hxs2:(xs++oneC nx ⟨kk,cc,b⟩)++encC last ((l.map RawP.raw).drop (t+1))=encC last (l.map RawP.raw):=by rw [List.append_assoc];exact hxs
      have HXS:=hidden hxs2
      have hxl2:(xs++oneC nx ⟨kk,cc,b⟩).length≤(t+1)*65535:=by
       have:=hat.byt.len
       rw [List.length_append,oneC_len]
       simp only
       omega
      have HXL:=hidden hxl2
      have HXR2:=hidden (rng_append hxr (oneC_rng nx kk cc b hat.byt.rng))
      have HXR:=hidden hxr
      have hj40:t*65535≤2621400:=by omega
      have hbn:some g≠u8.ownBlock:=fun e=>by
       have:=(ho.lt g e.symm).1
       exact absurd hgw (Nat.not_lt.2 this)
      have enx:nx % 256=nx:=by omega
      have hfo:=oneC_form nx kk cc b xs nb hat.byt.len
      rw [enx] at hfo
      have HFO:=hidden hfo
      obtain ⟨bv,hbv,hb0⟩ : ∃ bv:Int,(if cc then (128:Int) else 0)=bv∧(0≤bv∧bv≤255):=⟨_,rfl,by split<;>omega⟩
      rw [hbv] at hfo
      have HFO:=hidden hfo
      have HBV:=hidden hbv
      have HRN:=hidden (fun (w2:World) (u':Value) (h:Own w2 w.heap.size 5 u' (xs++[nx,bv]))=>h.bytN rfl (show (xs++[nx,bv]).length=xs.length+2 by simp) (rng_append hxr (by intro z hz;simp at hz;rcases hz with rfl | rfl<;>omega)))
      clear hst hxs hxs2 hxl2 hat hat2 hnx enx ho hbl hxr hfo hbv hjpos
      go_upto_if 96 with fail
      go_cut [10] from 92 to 102 (fun a w'=>a=.int .i64 nx∧wr=w')
      case first =>
       rcases hnc with ⟨hlast,cnx⟩ | ⟨hlast,rfl⟩
       all_goals
        go_wp2
        go_meet
        case rel=>exact ⟨rfl,rfl⟩
      case rest =>
       obtain ⟨rfl,rfl⟩:=hcut
       go_upto_if 107 with fail
       go_cut [11] from 103 to 107 (fun a w'=>a=.int .u8 bv∧wr=w')
       case first =>
        have h:=HBV.out
        clear HBV
        cases cc
        all_goals
         simp at h
         subst h
         go_wp2
         go_meet
         case rel=>exact ⟨rfl,rfl⟩
       case rest =>
        obtain ⟨rfl,rfl⟩:=hcut
        clear hnc c0 c1 HBV
        have hw8:IntKind.u8.wrap nx=nx:=by rw [IntKind.wrap_u8];omega
        have hwi:IntKind.i64.wrap ((nb:Int)+4)=(nb:Int)+4:=wraps_i64 _ (by omega) (by omega)
        have hwu:IntKind.u64.wrap ((nb:Int)+4)=(nb:Int)+4:=wraps_u64 _ (by omega) (by omega)
        go_wp2
        go_region_held3 (fun w'=>w'.cell? ⟨g,t*3+2,none⟩=some (.slice pb nb cb)) (first | exact c2 | go_keep | exact hcX | exact cell_below hb3 _ _ hcX)
         ((first
          | (refine step_append_byt _ (by rfl) _ _ 22 (by rfl) w.heap.size 5 i0 (.int .u8 0) Tryz.underlying22 hi0 hz0 hz1 hz2 rfl _ _ (by rfl) ((HO.out.alloc _).drew) _ _ _ _ [nx,bv] (by rfl) (two_byt ⟨hn0,hn1⟩ hb0 (by go_simp) (by go_simp)) (by rfl) (by omega) (by have:=HBL.out.size;simp;omega) ?_;intro u' w2 hown2 hg2;have hcX:w2.cell? ⟨g,t*3+2,none⟩=some (.slice pb nb cb):=World.grownBy.cell hg2 (by go_simp) hbn;obtain ⟨pu,cu,rfl,hyu⟩:=HRN.out _ _ hown2;have HPU:=hidden (fun w (h:Byt w pu (xs.length+2) cu (xs++[nx,bv]))=>rput_two pu (xs.length+2) cu (xs++[nx,bv]) w h (by omega) ((nb:Int)+4) (by omega)))
          | (go_at_call 20;(with_reducible refine (HPU.out _ hyu).mono ?_);rintro e w3 ⟨v3,rfl,hown3,hb3⟩)))
        all_goals
         have HO3:=hidden (hown3.mono (show w.heap.size≤w2.heap.size by have:=HBL.out.size;have:=hg2.size;simp at this;omega))
         have hb2:=((HBL.out.alloc HBL.out.size _).drew.grown hg2 (by have:=HBL.out.size;simp;omega) (fun g hg=>(HO.out.lt g hg).1))
         have HB3:=hidden (hb2.trans (hb3.mono hb2.size))
         have HBY3:=hidden (HBY.out.below HB3.out)
         have hc3:w3.cell? ⟨g,t*3+2,none⟩=some (.slice pb nb cb):=cell_below hb3 _ _ hcX
         have hs3:=HB3.out.size
         have hlen3:(xs++[nx,bv]++be 2 ((nb:Int)+4)).length=xs.length+4:=by simp [be_len]
         have HL3:=hidden hlen3
         clear hown3 hb2 hb3 hown2 hg2 hcX hyu HPU c2 hlen3 hwi hwu hw8
         go_wp2_with (at_builtin;go_loud (refine wpList_append_byt _ rfl _ _ 22 rfl w.heap.size 5 i0 (.int .u8 0) Tryz.underlying22 hi0 hz0 hz1 hz2 rfl _ _ rfl HO3.out _ _ _ _ _ rfl HBY3.out rfl ?c1 hs3 ?_))
         case c1=>rw [HL3.out];omega
         intro v4 w4 hown4 hg4
         have HB4:=hidden (HB3.out.grown hg4 HB3.out.size (fun g hg=>(HO3.out.lt g hg).1))
         have HO4:=hidden (show Own w4 w.heap.size 5 v4 (xs++oneC nx ⟨kk,cc,b⟩) by rw [HFO.out];simpa using hown4)
         clear hown4 hg4 hc3 hs3
         go_wp2
         go_roundw
         case rel=>exact ⟨t+1,by omega,by go_num,_,HXS.out,HXL.out,HXR2.out,HO4.out,HB4.out⟩
         case measure=>simp [intOf];omega
     ·obtain rfl:t=j:=by omega
      have e1:xs=encC last (l.map RawP.raw):=by
       rw [←hxs,enc_end t (by rw [List.length_map,HL.out];exact Nat.le_refl _),List.append_nil]
      subst e1
      have c0:=cell_below hbl _ _ HFI.out
      clear hxs hxl hxr ho hbl
      go_wp2
      go_ret3
      exact ⟨_,rfl,HO.out,HBL.out⟩
end Go.Proofs.YtgpigjoonhghhaaGreat
