/-
 append(b, make([]byte, n)...) on a row of the call's own that is not empty: n zeros more.
 slices.Grow of nil, slices.Concat of some slices of bytes.
 Bytes that lie beyond a place; what the fixed part and some parts behind it make.
 A map of the call's own from uint64s to bools that holds just those of a list.
 The first error of the SPIs of a deletion, as package payload tells it.
 What package proposal writes of a section and of a transform.
 What package proposal writes of a proposal.
 What package proposal reads of a section and of a transform, or throws.
 What package proposal reads of the inside of a transform, or throws.
 What the document's own Number returns, for every slice of bytes, place and width.
 A row of payloads of the call's own, with their bodies: what it is, how it stays, and how it grows.
 Plain mathematics, no program: a round of the loops that read and write chains of payloads.
 Types of payloads, and whether two lists of payloads are the same.
-/
import Derived.Test.YtgpigjoonhghhaaGreatQZ0
import Derived.Test.YtgpigjoonhghhaaGreatQZ2
import Derived.Test.YtgpigjoonhghhaaGreatRows
import Derived.Test.YtgpigjoonhghhaaGreatQNum
import Derived.Deep.RegionHeld3
import Derived.Deep.CutBlock
import Derived.ArgAppend
import Derived.Deep.RegionLaw
import Derived.Maps.OwnOps
import Derived.Maps.Views
import Derived.Laws.Entries
import Derived.Deep.QuietTactic
import Derived.BigQuiet
namespace Go.Proofs.YtgpigjoonhghhaaGreat
open Go.RowKit
section
variable {P:Program} (w:World)
end
end Go.Proofs.YtgpigjoonhghhaaGreat

namespace Go.Proofs.YtgpigjoonhghhaaGreat
open Go.RowKit
set_option linter.unusedVariables false
section
variable {P:Program} (w:World)
end
structure Part where
 p:Option Addr
 n:Nat
 c:Nat
 xs:List Int
structure Parts (w:World) (q:Option Addr) (m d:Nat) (l:List Part):Prop where
 len:l.length=m
 cap:m≤d
 big:d≤maxLen
 mem:0<m→∃ g,q=some ⟨g,0,none⟩∧∀ j (hj:j<l.length),w.cell? ⟨g,j,none⟩=some (.slice l[j].p l[j].n l[j].c)
 byt : ∀ x∈l,Byt w x.p x.n x.c x.xs
def bytesOf (l:List Part):List Int:=l.flatMap Part.xs
def sizeOf' (l:List Part):Nat:=(l.map Part.n).sum
theorem Parts.below {w w':World} {q:Option Addr} {m d:Nat} {l:List Part} (h:Parts w q m d l) (hb:Below w.heap.size w w'):Parts w' q m d l :=
 ⟨h.len,h.cap,h.big,fun h0=>by
  obtain ⟨g,e,hc⟩:=h.mem h0
  exact ⟨g,e,fun j hj=>cell_below hb _ _ (hc j hj)⟩,fun x hx=>(h.byt x hx).below hb⟩
end Go.Proofs.YtgpigjoonhghhaaGreat

namespace Go.Proofs.YtgpigjoonhghhaaGreat
open Go.RowKit
set_option linter.unusedVariables false
structure Frs (w:World) (base:Nat) (p:Option Addr) (n c:Nat) (xs:List Int):Prop where
 byt:Byt w p n c xs
 own:0<n→∃ b o,p=some ⟨b,o,none⟩∧base≤b
theorem Bod.frs {w:World} {base:Nat} {p:Option Addr} {n c:Nat} {xs:List Int} (h:Bod w base p n c xs):Frs w base p n c xs :=
 ⟨h.byt,fun h0=>by
  obtain ⟨b,o,cur,fz,e,hb,-⟩:=h.own h0
  exact ⟨b,o,e,hb⟩⟩
theorem Own.frs {w:World} {base:Nat} {v:Value} {xs:List Int} {n:Nat} (h:Own w base 5 v xs) (hl:xs.length=n) (hr : ∀ x∈xs,0≤x∧x≤255) : ∃ p c,v=.slice p n c∧Frs w base p n c xs:=by
 obtain ⟨p,c,e,hb⟩:=h.bod hl hr
 exact ⟨p,c,e,hb.frs⟩
section
variable {w w':World} {base:Nat} {p:Option Addr} {n c:Nat} {xs:List Int}
theorem Frs.mono {base':Nat} (h:Frs w base p n c xs) (hb:base'≤base):Frs w base' p n c xs :=
 ⟨h.byt,fun h0=>by
  obtain ⟨b,o,e,hb'⟩:=h.own h0
  exact ⟨b,o,e,by omega⟩⟩
theorem Frs.low {k:Nat} (h:Frs w base p n c xs) (hg:w.grownBy w' (some k)) (hk:k<base):Frs w' base p n c xs:=by
 rcases Nat.eq_zero_or_pos n with h0 | h0
 ·have hx:xs=[]:=List.eq_nil_of_length_eq_zero (h.byt.len.trans h0)
  subst h0 hx
  exact ⟨Byt.nil _ _ _ h.byt.big,fun h=>by omega⟩
 ·obtain ⟨b,o,rfl,hb⟩:=h.own h0
  refine ⟨⟨h.byt.len,h.byt.cap,h.byt.big,h.byt.rng,fun hn=>?_⟩,fun _=>⟨b,o,rfl,hb⟩⟩
  obtain ⟨b',o',e,hc⟩:=h.byt.mem hn
  injection e with e
  injection e with e1 e2
  subst e1 e2
  exact ⟨b,o,rfl,fun i hi=>hg.cell (hc i hi) (by simp;omega)⟩
theorem Frs.below (h:Frs w base p n c xs) (hb:Below w.heap.size w w'):Frs w' base p n c xs:=⟨h.byt.below hb,h.own⟩
theorem Frs.alloc (h:Frs w base p n c xs) (o:Obj):Frs (w.alloc o) base p n c xs:=⟨h.byt.alloc o,h.own⟩
end
theorem Frs.nil (w:World) (base:Nat) (p:Option Addr) (c:Nat) (hc:c≤maxLen):Frs w base p 0 c []:=⟨Byt.nil _ _ _ hc,fun h=>by omega⟩
section
variable {P:Program} (w:World)
end
def GotF (w:World) (ys:List Int) (e:Ending) (w':World):Prop:=∃ q d,e=.returned (.slice q ys.length d)∧Frs w' w.heap.size q ys.length d ys∧Below w.heap.size w w'
theorem four_byt (w:World) (a b c d:Int) (T:TypeId) (ha:0≤a∧a≤255) (hb:0≤b∧b≤255) (hc:0≤c∧c≤255) (hd:0≤d∧d≤255):Byt (w.alloc (.cells #[.int .u8 a,.int .u8 b,.int .u8 c,.int .u8 d] T)) (some ⟨w.heap.size,0,none⟩) 4 4 [a,b,c,d] :=
 ⟨rfl,Nat.le_refl _,by decide,fun x hx=>by simp at hx;rcases hx with rfl | rfl | rfl | rfl<;>assumption,fun _=>⟨w.heap.size,0,rfl,fun i hi=>by
  have:i=0∨i=1∨i=2∨i=3:=by simp at hi;omega
  rcases this with rfl | rfl | rfl | rfl<;>go_simp⟩⟩
end Go.Proofs.YtgpigjoonhghhaaGreat

namespace Go.Proofs.YtgpigjoonhghhaaGreat
open Go.RowKit
open Go.Maps (Keyed IsMap)
set_option linter.unusedVariables false
set_option maxRecDepth 100000
def WdR (t:Int):Prop:=0≤t∧t≤18446744073709551615
theorem lawU:Keyed Tryz.prog 26:=Maps.int_keyed Tryz.underlying26
theorem key_u (t:Int) (h:WdR t):keyOf Tryz.prog 26 (.int .u64 t)=some (.int .u64 t):=Maps.keyOf_int_mk Tryz.underlying26 (WalkArith.wf_u64 (by unfold WdR at h;omega))
structure FndUD (D:DataW Unit) (ts:List Int):Prop where
 map:IsMap D
 at_ : ∀ (t:Int),WdR t→D.atKey (.int .u64 t) (.lit (.bool false))=.lit (.bool (decide (t∈ts)))
def FndU (w:World) (b:Nat) (ts:List Int):Prop:=∃ D:DataW Unit,w.ownsMap Tryz.prog 26 (plainElem Tryz.prog 4) b ts.length D∧FndUD D ts
theorem FndU.made (w:World):FndU (w.alloc (.map #[] 0)) w.heap.size []:=⟨_,World.ownsMap_made _ _ _ _,⟨[],rfl⟩,fun t h=>by simp [DataW.atKey]⟩
theorem FndU.lt {w:World} {b:Nat} {ts:List Int} (h:FndU w b ts):b<w.heap.size:=by
 obtain ⟨D,h1,_⟩:=h
 exact h1.lt
theorem FndU.grown {w w':World} {b:Nat} {ts:List Int} {row:Option Nat} (h:FndU w b ts) (hg:w.grownBy w' row) (hne:some b≠row):FndU w' b ts:=by
 obtain ⟨D,h1,h2⟩:=h
 exact ⟨D,h1.kept hg hne,h2⟩
theorem FndU.below {w w':World} {b:Nat} {ts:List Int} (h:FndU w b ts) (hb:Below w.heap.size w w'):FndU w' b ts:=h.grown (row:=none) (grown_of_below hb none) (by simp)
theorem FndU.notCells {w:World} {b:Nat} {ts:List Int} (h:FndU w b ts) (cur:Array Value) (e:TypeId) (fz:Nat × Nat):w.heap[b]?≠some (.cells cur e fz):=by
 obtain ⟨D,⟨es,clock,h1,_⟩,_⟩:=h
 rw [h1]
 simp
theorem Tryz.zeroBoolU (w:World):(zeroValue 4).run Tryz.prog w=.ok (.bool false) w:=by kernel_rfl
theorem FndU.look {w:World} {b:Nat} {ts:List Int} (h:FndU w b ts) (t:Int) (hi:WdR t) :
  (Instr.lookup 175 (.map (some b)) (.int .u64 t) false).run Tryz.prog w=.ok (.bool (decide (t∈ts))) w:=by
 obtain ⟨D,h1,h2⟩:=h
 obtain ⟨v,ps,hrun,hv⟩:=h1.lookup lawU Tryz.underlying175 (Tryz.zeroBoolU w) (plainElem_bool Tryz.underlying4 false) (key_u t hi)
 rw [h2.at_ t hi] at hv
 have:v=.bool (decide (t∈ts)):=by
  unfold plainElem at hv
  rw [Tryz.underlying4] at hv
  cases v<;>simp at hv
  rw [hv.1]
 rw [←this]
 exact hrun
theorem FndUD.put {D:DataW Unit} {ts:List Int} (h:FndUD D ts) (t:Int) (hi:WdR t):FndUD (D.put (.int .u64 t) (.lit (.bool true))) (ts++[t]):=by
 refine ⟨h.map.put _ _,fun t' hi'=>?_⟩
 by_cases he:t'=t
 ·subst he
  rw [Maps.atKey_put_same h.map (lawU.key (key_u t' hi))]
  simp
 ·have hne:(Lit.int .u64 t':Lit)≠.int .u64 t:=by
   intro e
   injection e with _ e
   exact he e
  rw [Maps.atKey_put_other hne,h.at_ t' hi']
  simp [he]
theorem wpList_fndU (w:World) {ops:Array Oper} {rest:List Oper} {o:Oper} {a:Act} {Q:Exit→Act→World→Prop} (hg:o.guard=none) (m x v:Operand) (hop:o.op=Op.mapUpdate 175 m x v)
  (b:Nat) (ts:List Int) (h:FndU w b ts) (hn:ts.length<maxLen) (hm:a.eval m=.map (some b)) (t:Int) (hx:a.eval x=.int .u64 t) (hv:a.eval v=.bool true) (hi:WdR t)
  (hK : ∀ w',FndU w' b (ts++[t])→w.grownBy w' (some b)→wpList Tryz.prog ops Q rest (a.put o.dst undef) w'):wpList Tryz.prog ops Q (o :: rest) a w:=by
 obtain ⟨D,h1,h2⟩:=h
 refine wpList_mapUpdate_own w hg m x v _ hop _ _ lawU Tryz.underlying175 _ b _ D hm h1 hn _ _ (.int .u64 t) hx hv (key_u t hi) _ [] (plainElem_bool Tryz.underlying4 true) ?_
 intro w' h3 h4
 exact hK w' ⟨_,by simpa using h3,h2.put t hi⟩ h4
end Go.Proofs.YtgpigjoonhghhaaGreat

namespace Go.Proofs.YtgpigjoonhghhaaGreat
open Go.RowKit
set_option linter.unusedVariables false
def wordOf (xs:List Int):Int:=(numR xs 0 xs.length).1
theorem wordOf_rng (xs:List Int) (h : ∀ x∈xs,0≤x∧x≤255):WdR (wordOf xs):=by
 unfold wordOf numR WdR
 split
 ·rename_i hc
  obtain ⟨_,h8,_⟩:=hc
  have hb:=val_bd xs h
  have e:((xs.drop (0:Int).toNat).take ((xs.length:Nat):Int).toNat)=xs:=by
   show (xs.drop 0).take xs.length=xs
   rw [List.drop_zero,List.take_length]
  have hl:xs.length≤8:=by omega
  have hp:(256:Int) ^ xs.length≤256 ^ 8:=by
   have:=Nat.pow_le_pow_right (n:=256) (by decide) hl
   have h2:((256 ^ xs.length:Nat):Int)≤((256 ^ 8:Nat):Int):=Int.ofNat_le.2 this
   rw [Int.natCast_pow,Int.natCast_pow] at h2
   exact h2
  have hq:(256:Int) ^ 8=18446744073709551616:=by decide
  rw [hq] at hp
  show 0≤val ((xs.drop (0:Int).toNat).take ((xs.length:Nat):Int).toNat)∧val ((xs.drop (0:Int).toNat).take ((xs.length:Nat):Int).toNat)≤18446744073709551615
  rw [e]
  omega
 ·exact ⟨by decide,by decide⟩
def spisT:List Int→List Sb→Bool
 | _,[]=>false
 | ts,y :: l=>decide (wordOf y.xs∈ts) || spisT (ts++[wordOf y.xs]) l
def spisE (k:Int) (l:List Sb):Int:=if l.length=0∧k≠1 then 8 else if spisT [] l then 9 else 0
def twiceW:List Int→List (List Int)→Bool
 | _,[]=>false
 | ts,y :: l=>decide (wordOf y∈ts) || twiceW (ts++[wordOf y]) l
def spisX (k:Int) (l:List (List Int)):Int:=if l.length=0∧k≠1 then 8 else if twiceW [] l then 9 else 0
theorem spisT_xs : ∀ (l:List Sb) (ts:List Int),spisT ts l=twiceW ts (l.map Sb.xs)
 | [],_=>rfl
 | y :: l,ts=>by simp [spisT,twiceW,spisT_xs l]
theorem spisE_xs (k:Int) (l:List Sb):spisE k l=spisX k (l.map Sb.xs):=by simp [spisE,spisX,spisT_xs]
theorem FndU.alloc {w:World} {b:Nat} {ts:List Int} (h:FndU w b ts) (o:Obj):FndU (w.alloc o) b ts:=h.below ((Below.refl _ _).alloc (Nat.le_refl _) o)
set_option maxHeartbeats 6400000 in
set_option maxRecDepth 100000 in
theorem checkSpis_any (k:Int) (p:Option Addr) (n c:Nat) (l:List Sb) (w:World) (h:RdG KSb DSb w p n c l) :
  Calls Tryz.prog 110 #[.agg #[.int .i64 k,.slice p n c]] w fun e w'=>e=.returned (.int .i64 (spisE k l))∧Below w.heap.size w w':=by
 have hmm:=@run_makeMap Tryz.prog
 have hl:=h.len
 have hbig:n≤maxLen:=Nat.le_trans h.cap h.big
 have hn63:=h.le
 have HBX:=hidden ((Below.refl w.heap.size w).alloc (Nat.le_refl _) (.cells #[.int .i64 k,.slice p n c] 46))
 obtain ⟨R,hR⟩ : ∃ R,spisE k l=R:=⟨_,rfl⟩
 rw [hR]
 by_cases h0:n=0
 ·subst h0
  have e0:(((0:Nat):Int) == 0)=true:=rfl
  by_cases h1:k=1
  ·subst h1
   have HR:Is (0:Int) R:=⟨by
    rw [←hR]
    have:l=[]:=List.eq_nil_of_length_eq_zero hl
    subst this
    rfl⟩
   clear hR h hl
   go_enter Tryz.func110,Tryz.ntmps110
   go_wp2_with fail
   go_loopw [21] (fun v wr=>v=.int .i64 0∧Below (w.heap.size+1) (w.alloc (.cells #[.int .i64 1,.slice p 0 c] 46)) wr) (fun v _=>0)
   case atStart=>exact ⟨rfl,(Below.refl _ _).alloc (by simp) _⟩
   case round =>
    obtain ⟨rfl,hb⟩:=hrel
    have hb':Below (w.alloc (.cells #[.int .i64 1,.slice p 0 c] 46)).heap.size (w.alloc (.cells #[.int .i64 1,.slice p 0 c] 46)) wr:=by simpa using hb
    have HB:=hidden (HBX.out.trans (hb'.mono HBX.out.size))
    clear hb hb'
    go_wp2
    go_ret
    exact ⟨by rw [←HR.eq];rfl,HB.out⟩
  ·have e1:(k != 1)=true:=by simpa using h1
   have HR:Is (8:Int) R:=⟨by rw [←hR];unfold spisE;rw [if_pos ⟨hl,h1⟩]⟩
   clear hR h h1 hl
   go_enter Tryz.func110,Tryz.ntmps110
   go_wp2_with fail
   go_ret
   exact ⟨by rw [←HR.eq];rfl,HBX.out⟩
 have e0:((n:Int) == 0)=false:=by simpa using h0
 obtain ⟨R0,hR0⟩ : ∃ R0,spisT [] l=R0:=⟨_,rfl⟩
 have HR:Is (if R0=true then (9:Int) else 0) R:=⟨by rw [←hR,←hR0];exact (if_neg (fun e=>by have:=e.1;omega)).symm⟩
 have HR0:=Is.mk hR0
 clear hR hR0 h0
 have H:=hidden h
 have HL:=Is.mk hl
 clear h hl
 have HFM:=hidden (FndU.made (w.alloc (.cells #[.int .i64 k,.slice p n c] 46)))
 go_enter Tryz.func110,Tryz.ntmps110
 go_wp2_with fail
 go_loopw [21] (fun v wr=>∃ (j:Nat),j≤n∧v=.int .i64 j∧FndU wr (w.heap.size+1) ((l.take j).map (fun y=>wordOf y.xs))∧Is (spisT ((l.take j).map (fun y=>wordOf y.xs)) (l.drop j)) R0∧Below (w.heap.size+1) (w.alloc (.cells #[.int .i64 k,.slice p n c] 46)) wr) (fun v _=>n - (intOf v).toNat)
 case atStart=>exact ⟨0,by omega,rfl,by simpa using HFM.out,⟨by simpa using HR0.eq⟩,(Below.refl _ _).alloc (by simp) _⟩
 case round =>
  obtain ⟨j,hj,rfl,hfn,hrel,hb⟩:=hrel
  have HFN:=hidden hfn
  have hb':Below (w.alloc (.cells #[.int .i64 k,.slice p n c] 46)).heap.size (w.alloc (.cells #[.int .i64 k,.slice p n c] 46)) wr:=by simpa using hb
  have HB:=hidden (HBX.out.trans (hb'.mono HBX.out.size))
  have HB1:=hidden hb
  have hsz:w.heap.size+1≤wr.heap.size:=by have:=hb'.size;simpa using this
  clear hb hb' hfn
  by_cases hlt:j<n
  ·have hlt':(j:Int)<n:=by omega
   obtain ⟨g,y,rfl,hgx,hdr,hok,hc⟩:=(H.out.below HB.out).sb_cons hlt
   have hf:=hrel.eq
   rw [hdr] at hf
   unfold spisT at hf
   have htk:(l.take (j+1)).map (fun y=>wordOf y.xs)=(l.take j).map (fun y=>wordOf y.xs)++[wordOf y.xs]:=by
    rw [List.take_add_one,hgx]
    simp
   have HTK:=Is.mk htk
   have hlen:((l.take j).map (fun y=>wordOf y.xs)).length<maxLen:=by simp;omega
   have HIY:=hidden (wordOf_rng y.xs hok.rng)
   have hlk:=HFN.out.look (wordOf y.xs) (wordOf_rng y.xs hok.rng)
   have hyn:=hok.le
   have HN:=hidden (number_any y.p y.n y.c y.xs wr hok 0 y.n (by omega) (by omega))
   have hw:(numR y.xs 0 y.n).1=wordOf y.xs:=by unfold wordOf;rw [hok.len]
   rw [hw] at HN
   clear hok hrel hdr hgx hw htk
   generalize (l.take j).map (fun y=>wordOf y.xs)=ts at hf HFN hlk hlen HTK
   generalize decide (wordOf y.xs∈ts)=z at hf hlk
   generalize wordOf y.xs=t at hf HFN hlk HTK HIY HN
   generalize (numR y.xs 0 y.n).2=q at HN
   cases z with
   | true =>
    have HT:Is R0 true:=⟨by simpa using hf.symm⟩
    clear hf
    go_wp2_with (first
     | (go_at_call 79;(with_reducible refine (HN.out).mono ?_);rintro _ w1 ⟨rfl,rfl⟩)
     | fail)
    go_ret
    exact ⟨by rw [←HR.eq,HT.eq];rfl,HB.out⟩
   | false =>
    have HT:Is (spisT (ts++[t]) (l.drop (j+1))) R0:=⟨by simpa using hf⟩
    clear hf
    go_wp2_with (first
     | (go_at_call 79;(with_reducible refine (HN.out).mono ?_);rintro _ w1 ⟨rfl,rfl⟩)
     | (at_mapUpdate;go_loud (refine wpList_fndU _ rfl _ _ _ rfl (w.heap.size+1) ts HFN.out hlen rfl t rfl rfl HIY.out ?_);rintro w2 hf2 hg2;have HF2:=hidden hf2;have HB2:=hidden (HB1.out.grown hg2 hsz (fun k hk=>by cases hk;exact Nat.le_refl _));clear hf2 hg2)
     | fail)
    go_roundw
    case rel=>exact ⟨j+1,by omega,by go_num,by rw [HTK.eq];exact HF2.out,by rw [HTK.eq];exact HT,HB2.out⟩
    case measure=>simp [intOf];omega
  ·have hlt':¬ (j:Int)<n:=by omega
   have hd:l.drop j=[]:=List.drop_eq_nil_of_le (by rw [HL.eq];omega)
   have hf:=hrel.eq
   rw [hd] at hf
   have HT:Is R0 false:=⟨hf.symm⟩
   clear hf hd hrel
   go_wp2
   go_ret
   exact ⟨by rw [←HR.eq,HT.eq];rfl,HB.out⟩
end Go.Proofs.YtgpigjoonhghhaaGreat

namespace Go.Proofs.YtgpigjoonhghhaaGreat
open Go.RowKit
set_option linter.unusedVariables false
def OwnR (w:World) (m:Nat) (ys:List Int) (e:Ending) (w':World):Prop:=∃ q d,e=.returned (.slice q m d)∧Own w' w.heap.size 5 (.slice q m d) ys∧Byt w' q m d ys∧Below w.heap.size w w'
def secE (more:Int) (ys:List Int):List Int:=[more,0]++(be 2 (4+(ys.length:Int))++ys)
def inT (x:Tr):List Int:=[x.t % 256,0]++(be 2 x.i++(if x.k≠0 then be 2 32782++be 2 x.k else []))
def inP (p:Pr):List Int:=[p.n % 256,p.p % 256,(p.s.length:Int) % 256,(p.ts.length:Int) % 256]++(p.s++encTs p.ts)
theorem encT_sec (more:Int) (x:Tr):encT more x=secE more (inT x):=by
 unfold encT secE inT lenT
 split<;>simp [be_len]
theorem encP_sec (more:Int) (p:Pr):encP more p=secE more (inP p):=by
 unfold encP secE inP
 have e:8+(p.s.length:Int)+((encTs p.ts).length:Int)=4+(([p.n % 256,p.p % 256,(p.s.length:Int) % 256,(p.ts.length:Int) % 256]++(p.s++encTs p.ts)).length:Int):=by
  simp
  omega
 rw [e]
theorem secE_rng (more:Int) (ys:List Int) (h0:0≤more∧more≤255) (h : ∀ x∈ys,0≤x∧x≤255) : ∀ x∈secE more ys,0≤x∧x≤255:=by
 refine rng_append ?_ (rng_append (be_rng _ _) h)
 intro z hz
 simp at hz
 omega
end Go.Proofs.YtgpigjoonhghhaaGreat

namespace Go.Proofs.YtgpigjoonhghhaaGreat
open Go.RowKit
set_option linter.unusedVariables false
theorem encTs_step (l:List Tr) (j:Nat) (hj:j<l.length) (x:Tr) (hx:l[j]=x):encTs (l.drop j)=secE (if j+1<l.length then 3 else 0) (inT x)++encTs (l.drop (j+1)):=by
 subst hx
 rw [List.drop_eq_getElem_cons hj,encTs,encT_sec,List.length_drop]
 by_cases h:j+1<l.length
 ·rw [if_neg (by omega),if_pos h]
 ·rw [if_pos (by omega),if_neg h]
theorem inT_rng (x:Tr) : ∀ z∈inT x,0≤z∧z≤255:=by
 unfold inT
 refine rng_append ?_ (rng_append (be_rng _ _) ?_)
 ·intro z hz
  simp at hz
  omega
 ·split
  ·exact rng_append (be_rng _ _) (be_rng _ _)
  ·intro z hz;simp at hz
end Go.Proofs.YtgpigjoonhghhaaGreat

namespace Go.Proofs.YtgpigjoonhghhaaGreat
open Go.RowKit
set_option linter.unusedVariables false
structure PS (w:World) (k:Nat) (p:Option Addr) (n c:Nat) (xs:List Int) (a:Nat):Prop where
 cu:Cu w k p n c a
 byt : ∃ W,Byt W p n c xs∧Below W.heap.size W w∧W.heap.size≤k
 le:a≤n
section
variable {w w':World} {k:Nat} {p:Option Addr} {n c:Nat} {xs:List Int} {a b:Nat}
theorem PS.here (h:PS w k p n c xs a):Byt w p n c xs:=by
 obtain ⟨W,h1,h2,_⟩:=h.byt
 exact h1.below h2
theorem PS.next (h:PS w k p n c xs a) (hg:w.grownBy w' (some k)) (hc:Cu w' k p n c (b:Nat)) (hb:b≤n):PS w' k p n c xs b:=by
 obtain ⟨W,h1,h2,h3⟩:=h.byt
 exact ⟨hc,⟨W,h1,h2.grown hg h2.size (fun r hr=>by cases hr;exact h3),h3⟩,hb⟩
theorem PS.off {row:Option Nat} (h:PS w k p n c xs a) (hg:w.grownBy w' row) (hr : ∀ r,row=some r→k<r):PS w' k p n c xs a:=by
 obtain ⟨W,h1,h2,h3⟩:=h.byt
 exact ⟨h.cu.grown hg (fun e=>by have:=hr k e.symm;omega),⟨W,h1,h2.grown hg h2.size (fun r e=>by have:=hr r e;omega),h3⟩,h.le⟩
theorem PS.below (h:PS w k p n c xs a) (hb:Below w.heap.size w w'):PS w' k p n c xs a:=h.off (row:=none) (grown_of_below hb none) (by simp)
theorem PS.lt (h:PS w k p n c xs a):k<w.heap.size:=h.cu.lt
end
theorem pn1 (p:Option Addr) (n c:Nat) (xs:List Int) (w:World) (k a:Nat) (h:PS w k p n c xs a) (v:Int) (hv:xs.getD a 0=v) :
  Calls Tryz.prog 136 #[.pointer (some ⟨k,0,none⟩),.int .i64 1] w fun e w'=>w.grownBy w' (some k)∧((a+1≤n∧e=.returned (.int .i64 v)∧PS w' k p n c xs (a+1))∨(n<a+1∧Thrown e)):=by
 refine (pnum_any p n c xs w k a 1 h.cu h.here (by omega) (by omega) h.le _ rfl 1 rfl).mono ?_
 rintro e w' ⟨hg,⟨h1,rfl,hc⟩ | ⟨h1,ht⟩⟩
 ·exact ⟨hg,Or.inl ⟨h1,by rw [num_one _ _ (by have:=h.here.len;omega),hv],h.next hg hc h1⟩⟩
 ·exact ⟨hg,Or.inr ⟨h1,ht⟩⟩
theorem pn2 (p:Option Addr) (n c:Nat) (xs:List Int) (w:World) (k a:Nat) (h:PS w k p n c xs a) (v:Int) (hv:w2 xs a=v) :
  Calls Tryz.prog 136 #[.pointer (some ⟨k,0,none⟩),.int .i64 2] w fun e w'=>w.grownBy w' (some k)∧((a+2≤n∧e=.returned (.int .i64 v)∧PS w' k p n c xs (a+2))∨(n<a+2∧Thrown e)):=by
 refine (pnum_any p n c xs w k a 2 h.cu h.here (by omega) (by omega) h.le _ rfl 2 rfl).mono ?_
 rintro e w' ⟨hg,⟨h1,rfl,hc⟩ | ⟨h1,ht⟩⟩
 ·exact ⟨hg,Or.inl ⟨h1,by rw [num_two _ _ (by have:=h.here.len;omega),hv],h.next hg hc h1⟩⟩
 ·exact ⟨hg,Or.inr ⟨h1,ht⟩⟩
theorem pl (p:Option Addr) (n c:Nat) (xs:List Int) (w:World) (k a:Nat) (h:PS w k p n c xs a) (b:Bool) (hb:b=decide (a<n)) :
  Calls Tryz.prog 124 #[.pointer (some ⟨k,0,none⟩)] w fun e w'=>e=.returned (.bool b)∧Below w.heap.size w w'∧PS w' k p n c xs a :=
 (left_any p n c w k a h.cu h.here.le b (by rw [hb];simp)).mono fun e w' ⟨h1,h2⟩=>⟨h1,h2,h.below h2⟩
theorem pt (p:Option Addr) (n c:Nat) (xs:List Int) (w:World) (k a:Nat) (h:PS w k p n c xs a) (hn:n≤140737488355328) (M:Int) (hM : -9223372036854775808≤M∧M≤9223372036854775807) :
  Calls Tryz.prog 137 #[.pointer (some ⟨k,0,none⟩),.int .i64 M] w fun e w'=>w.grownBy w' (some k)∧((0≤M∧a+M≤n∧∃ q m d,e=.returned (.slice q m d)∧Bod w' w.heap.size q m d ((xs.drop a).take M.toNat)∧PS w' k p n c xs (a+M.toNat))∨(¬ (0≤M∧a+M≤n)∧Thrown e)):=by
 refine (ptake_any p n c xs w k a h.cu h.here hn h.le M hM).mono ?_
 rintro e w' ⟨hg,⟨h1,h2,q,m,d,he,hby,hc⟩ | ⟨h1,ht⟩⟩
 ·exact ⟨hg,Or.inl ⟨h1,h2,q,m,d,he,hby,h.next hg (by rw [show ((a+M.toNat:Nat):Int)=a+M by omega];exact hc) (by omega)⟩⟩
 ·exact ⟨hg,Or.inr ⟨h1,ht⟩⟩
def secV (more:Int) (ys:List Int):Option (List Int × Nat) :=
 if ys.length<4 then none else if w2 ys 2<4∨(ys.length:Int)<w2 ys 2 then none
 else if ys.getD 0 0≠(if (ys.length:Int)=w2 ys 2 then 0 else more) then none else some ((ys.take (w2 ys 2).toNat).drop 4,(w2 ys 2).toNat)
def GotS (w:World) (k:Nat) (p:Option Addr) (n c:Nat) (xs:List Int) (a:Nat) (r:Option (List Int × Nat)) (e:Ending) (w':World):Prop :=
 w.grownBy w' (some k)∧match r with
 | none=>Thrown e
 | some x=>∃ R q m d,e=.returned (.pointer (some ⟨R,0,none⟩))∧w.heap.size≤R∧PS w' R q m d x.1 0∧PS w' k p n c xs (a+x.2)
theorem gots_none {w:World} {k:Nat} {p:Option Addr} {n c:Nat} {xs:List Int} {a:Nat} {r:Option (List Int × Nat)} {e:Ending} {w':World} (hg:w.grownBy w' (some k)) (hr:r=none) (ht:Thrown e):GotS w k p n c xs a r e w':=by
 subst hr
 exact ⟨hg,ht⟩
theorem getD_dropP (xs:List Int) (a b:Nat):(xs.drop a).getD b 0=xs.getD (a+b) 0:=by simp [List.getD_eq_getElem?_getD]
theorem w2_dropP (xs:List Int) (a b:Nat):w2 (xs.drop a) b=w2 xs (a+b):=by rw [w2,getD_dropP,getD_dropP,w2,Nat.add_assoc]
theorem w2_bdP (xs:List Int) (hr : ∀ x∈xs,0≤x∧x≤255) (a:Nat):0≤w2 xs a∧w2 xs a≤65535:=by
 have h0:=rng_getD hr a
 have h1:=rng_getD hr (a+1)
 unfold w2
 omega
theorem secV_at (more:Int) (xs:List Int) (n a:Nat) (hl:xs.length=n) (L x0:Int) (hL:w2 xs (a+2)=L) (hx:xs.getD a 0=x0):secV more (xs.drop a) =
  if n - a<4 then none else if L<4∨((n - a:Nat):Int)<L then none else if x0≠(if ((n - a:Nat):Int)=L then 0 else more) then none else some (((xs.drop a).take L.toNat).drop 4,L.toNat):=by
 subst hL hx hl
 have e:xs.getD a 0=(xs.drop a).getD 0 0:=by rw [getD_dropP];rfl
 rw [e]
 unfold secV
 rw [List.length_drop,w2_dropP]
set_option maxHeartbeats 800000 in
theorem section_any (more:Int) (p:Option Addr) (n c:Nat) (xs:List Int) (w:World) (k a:Nat) (h:PS w k p n c xs a) (hn:n≤1048576) (r:Option (List Int × Nat)) (hr:secV more (xs.drop a)=r) :
  Calls Tryz.prog 125 #[.pointer (some ⟨k,0,none⟩),.int .i64 more] w (GotS w k p n c xs a r):=by
 have hlen:=h.here.len
 have hrng:=h.here.rng
 have hd:(xs.drop a).length=n - a:=by simp [hlen]
 have hle:=h.le
 obtain ⟨L,hL⟩ : ∃ L,w2 xs (a+2)=L:=⟨_,rfl⟩
 have hLb:=w2_bdP xs hrng (a+2)
 rw [hL] at hLb
 obtain ⟨x0,hx0⟩ : ∃ x0,xs.getD a 0=x0:=⟨_,rfl⟩
 have hxb:=rng_getD hrng a
 rw [hx0] at hxb
 rw [secV_at more xs n a hlen L x0 hL hx0] at hr
 obtain ⟨x1,hx1⟩ : ∃ x1,xs.getD (a+1) 0=x1:=⟨_,rfl⟩
 have HR:=hidden hr
 have HP:=hidden h
 have HX0:=hidden hx0
 have HX1:=hidden hx1
 have HL:=hidden hL
 clear hr h hx0 hx1 hL hrng hlen hd
 go_enter Tryz.func125,Tryz.ntmps125
 go_wp2_with fail
 go_at_call 136
 (with_reducible refine (pn1 p n c xs w k a HP.out x0 HX0.out).mono ?_)
 rintro e w1 ⟨hg1,⟨hi1,rfl,hps1⟩ | ⟨hi1,ht⟩⟩
 rotate_left
 ·subst ht
  exact ⟨rfl,gots_none hg1 (by rw [←HR.out,if_pos (by omega)]) rfl⟩
 have HP1:=hidden hps1
 have HG1:=hidden hg1
 clear hps1 hg1
 go_wp2_with fail
 go_at_call 136
 (with_reducible refine (pn1 p n c xs w1 k (a+1) HP1.out x1 HX1.out).mono ?_)
 rintro e w2 ⟨hg2,⟨hi2,rfl,hps2⟩ | ⟨hi2,ht⟩⟩
 rotate_left
 ·subst ht
  exact ⟨rfl,gots_none (grown_trans HG1.out hg2) (by rw [←HR.out,if_pos (by omega)]) rfl⟩
 have HP2:=hidden hps2
 have HG2:=hidden (grown_trans HG1.out hg2)
 clear hps2 hg2 HG1 HP1
 go_wp2_with fail
 go_at_call 136
 (with_reducible refine (pn2 p n c xs w2 k (a+2) HP2.out L HL.out).mono ?_)
 rintro e w3 ⟨hg3,⟨hi3,rfl,hps3⟩ | ⟨hi3,ht⟩⟩
 rotate_left
 ·subst ht
  exact ⟨rfl,gots_none (grown_trans HG2.out hg3) (by rw [←HR.out,if_pos (by omega)]) rfl⟩
 have HP3:=hidden hps3
 have HG3:=hidden (grown_trans HG2.out hg3)
 clear hps3 hg3 HG2 HP2
 have HR4:=hidden HR.out
 have hr:=HR.out
 rw [if_neg (by omega)] at hr
 have HR4:=hidden hr
 clear hr HR
 go_wp2_with fail
 go_at_call 137
 (with_reducible refine (pt p n c xs w3 k (a+2+2) HP3.out (by omega) (L - 4) (by omega)).mono ?_)
 rintro e w4 ⟨hg4,⟨hi4,hi5,q,m,d,rfl,hby,hps4⟩ | ⟨hi4,ht⟩⟩
 rotate_left
 ·subst ht
  exact ⟨rfl,gots_none (grown_trans HG3.out hg4) (by rw [←HR4.out,if_pos (by omega)]) rfl⟩
 have hr:=HR4.out
 rw [if_neg (by omega)] at hr
 obtain ⟨l,rfl⟩:=Int.eq_ofNat_of_zero_le hLb.1
 have e1:((xs.drop a).take l).drop 4=(xs.drop (a+2+2)).take ((l:Int) - 4).toNat:=by
  rw [show ((l:Int) - 4).toNat=l - 4 by omega,List.drop_take,List.drop_drop]
 rw [Int.toNat_natCast,e1] at hr
 have hm:=hby.byt.len
 have hq:PS (w4.alloc (.cells #[.slice q m d,.int .i64 0] 183)) w4.heap.size q m d ((xs.drop (a+2+2)).take ((l:Int) - 4).toNat) 0 :=
  ⟨Cu.new _ _ _ _ _ _,⟨w4,hby.byt,(Below.refl _ _).alloc (Nat.le_refl _) _,Nat.le_refl _⟩,Nat.zero_le _⟩
 have hp5:=hps4.below ((Below.refl _ _).alloc (Nat.le_refl _) (.cells #[.slice q m d,.int .i64 0] 183))
 rw [show a+2+2+((l:Int) - 4).toNat=a+l by omega] at hp5
 have hg5:=grown_alloc_new (grown_trans HG3.out hg4) (.cells #[.slice q m d,.int .i64 0] 183)
 have hs5:w.heap.size≤w4.heap.size:=(grown_trans HG3.out hg4).size
 generalize (xs.drop (a+2+2)).take ((l:Int) - 4).toNat=ys at hr hq
 have HQ:=hidden hq
 have HP5:=hidden hp5
 have HG5:=hidden hg5
 have HR5:=hidden hr
 clear hq hp5 hg5 hr hby hps4 hg4 HG3 HP3 HR4 e1 hm
 obtain ⟨b,hb⟩ : ∃ b,b=decide (a+l<n):=⟨_,rfl⟩
 have HB:=hidden hb
 clear hb
 go_wp2_with fail
 go_at_call 124
 (with_reducible refine (pl p n c xs _ k (a+l) HP5.out b HB.out).mono ?_)
 rintro e w6 ⟨rfl,hb6,hp6⟩
 have HP6:=hidden hp6
 have HQ6:=hidden (HQ.out.below hb6)
 have HG6:=hidden (grown_trans HG5.out (grown_of_below hb6 _))
 clear hp6 hb6
 obtain ⟨mk,hmk⟩ : ∃ mk,(if b=true then more else 0)=mk:=⟨_,rfl⟩
 have HMK:=hidden hmk
 clear hmk
 go_wp2_with (go_at_call 139;(with_reducible refine (mark_any more b _).mono ?_);rintro e w7 ⟨rfl,rfl⟩;rw [HMK.out])
 go_at_call 138
 (refine (need_any _ _).mono ?_)
 have hcond:(x0 == mk)=true↔¬ x0≠(if ((n - a:Nat):Int)=l then 0 else more):=by
  rw [←HMK.out,HB.out]
  by_cases hh:a+l<n
  ·rw [if_neg (show ¬ ((n - a:Nat):Int)=l by omega)]
   simp [hh]
  ·rw [if_pos (show ((n - a:Nat):Int)=l by omega)]
   simp [hh]
 rintro e w8 ⟨rfl,⟨ht,rfl⟩ | ⟨ht,hth⟩⟩
 ·have hr:=HR5.out
  rw [if_neg (hcond.1 ht)] at hr
  have HR6:=hidden hr
  clear hcond ht hr
  go_wp2
  go_ret
  rw [←HR6.out]
  exact ⟨HG6.out,_,q,m,d,rfl,hs5,HQ6.out,HP6.out⟩
 ·subst hth
  refine ⟨rfl,gots_none HG6.out ?_ rfl⟩
  rw [←HR5.out,if_pos]
  intro h
  rw [hcond.2 (by simpa using h)] at ht
  cases ht
end Go.Proofs.YtgpigjoonhghhaaGreat

namespace Go.Proofs.YtgpigjoonhghhaaGreat
open Go.RowKit
set_option linter.unusedVariables false
structure TrIn (w:World) (g:Nat) (t i k:Int):Prop where
 c0:w.cell? ⟨g,0,none⟩=some (.int .i64 t)
 c1:w.cell? ⟨g,1,none⟩=some (.int .i64 i)
 c2:w.cell? ⟨g,2,none⟩=some (.int .i64 k)
 fr : ∀ j,w.frozen? ⟨g,j,none⟩=false
section
variable {w w':World} {g:Nat} {t i k:Int}
theorem TrIn.lt (h:TrIn w g t i k):g<w.heap.size:=World.block_lt_of_cell? w _ h.c0
theorem TrIn.grown {row:Option Nat} (h:TrIn w g t i k) (hg:w.grownBy w' row) (hne:some g≠row):TrIn w' g t i k :=
 ⟨hg.cell h.c0 hne,hg.cell h.c1 hne,hg.cell h.c2 hne,fun j=>(World.frozen?_of_block (a:=⟨g,j,none⟩) (hg.block g h.lt hne)).trans (h.fr j)⟩
theorem TrIn.below (h:TrIn w g t i k) (hb:Below w.heap.size w w'):TrIn w' g t i k:=h.grown (row:=none) (grown_of_below hb none) (by simp)
theorem TrIn.set0 (h:TrIn w g t i k) (v:Int):TrIn (w.setCell ⟨g,0,none⟩ (.int .i64 v)) g v i k:=by
 obtain ⟨c0,c1,c2,fr⟩:=h
 exact ⟨by go_simp,by go_simp,by go_simp,fun j=>by rw [World.frozen?_setCell];exact fr j⟩
theorem TrIn.set1 (h:TrIn w g t i k) (v:Int):TrIn (w.setCell ⟨g,1,none⟩ (.int .i64 v)) g t v k:=by
 obtain ⟨c0,c1,c2,fr⟩:=h
 exact ⟨by go_simp,by go_simp,by go_simp,fun j=>by rw [World.frozen?_setCell];exact fr j⟩
theorem TrIn.set2 (h:TrIn w g t i k) (v:Int):TrIn (w.setCell ⟨g,2,none⟩ (.int .i64 v)) g t i v:=by
 obtain ⟨c0,c1,c2,fr⟩:=h
 exact ⟨by go_simp,by go_simp,by go_simp,fun j=>by rw [World.frozen?_setCell];exact fr j⟩
theorem TrIn.new (w:World) (t i k:Int) (T:TypeId):TrIn (w.alloc (.cells #[.int .i64 t,.int .i64 i,.int .i64 k] T)) w.heap.size t i k :=
 ⟨by go_simp,by go_simp,by go_simp,fun j=>by go_simp⟩
end
theorem load_tr {w:World} {g:Nat} {t i k:Int} (h:TrIn w g t i k):(loadVar 118 ⟨g,0,none⟩).run Tryz.prog w=.ok (.agg #[.int .i64 t,.int .i64 i,.int .i64 k]) w:=by
 obtain ⟨c0,c1,c2,fr⟩:=h
 simp [loadVar,go_sem,c0,c1,c2,Result.andThen]
theorem ret_tr {fn:Func} {R:Ending→World→Prop} {a:Act} {w:World} {p:Nat} {g:Nat} {t i k:Int} (h:fn.results=#[.cell p 118]) (hp:a.tmps.getD p undef=.pointer (some ⟨g,0,none⟩)) (hd:a.defers=[])
  (hh:TrIn w g t i k) (hR:R (.returned (.agg #[.int .i64 t,.int .i64 i,.int .i64 k])) w):bodyPost Tryz.prog fn R .ret a w:=by
 refine bodyPost_ret (v:=.agg #[.int .i64 t,.int .i64 i,.int .i64 k]) ?_ hd hR
 rw [Array.getD_eq_getD_getElem?] at hp
 simp [results,h,hp,asAddr,load_tr hh]
def trV (zs:List Int):Option Tr :=
 if zs.length<4 then none else if zs.length=4 then some ⟨zs.getD 0 0,w2 zs 2,0⟩
 else if zs.length≠8∨w2 zs 4≠32782∨w2 zs 6=0 then none else some ⟨zs.getD 0 0,w2 zs 2,w2 zs 6⟩
def GotTr (w:World) (k:Nat) (r:Option Tr) (e:Ending) (w':World):Prop :=
 w.grownBy w' (some k)∧match r with
 | none=>Thrown e
 | some x=>e=.returned (.agg #[.int .i64 x.t,.int .i64 x.i,.int .i64 x.k])∧IntT x
theorem gottr_none {w:World} {k:Nat} {r:Option Tr} {e:Ending} {w':World} (hg:w.grownBy w' (some k)) (hr:r=none) (ht:Thrown e):GotTr w k r e w':=by
 subst hr
 exact ⟨hg,ht⟩
theorem intT_of {a b c:Int} (h1:0≤a∧a≤65535) (h2:0≤b∧b≤65535) (h3:0≤c∧c≤65535):IntT ⟨a,b,c⟩:=by
 refine ⟨⟨?_,?_⟩,⟨?_,?_⟩,?_,?_⟩<;>simp only<;>omega
theorem gottr_some {w:World} {k:Nat} {r:Option Tr} {t i kk:Int} {w':World} (hg:w.grownBy w' (some k)) (hr:r=some ⟨t,i,kk⟩) (h:IntT ⟨t,i,kk⟩):GotTr w k r (.returned (.agg #[.int .i64 t,.int .i64 i,.int .i64 kk])) w':=by
 subst hr
 exact ⟨hg,rfl,h⟩
structure TS (w w1:World) (k:Nat) (p:Option Addr) (n c:Nat) (xs:List Int) (a:Nat) (t i kk:Int):Prop where
 ps:PS w1 k p n c xs a
 gr:w.grownBy w1 (some k)
 lk:k<w.heap.size
 rt:TrIn w1 w.heap.size 0 0 0
 ru:TrIn w1 (w.heap.size+1) t i kk
section
variable {w w1 w2:World} {k:Nat} {p:Option Addr} {n c:Nat} {xs:List Int} {a b:Nat} {t i kk:Int}
theorem TS.step (h:TS w w1 k p n c xs a t i kk) (hg:w1.grownBy w2 (some k)) (hp:PS w2 k p n c xs b):TS w w2 k p n c xs b t i kk :=
 ⟨hp,grown_trans h.gr hg,h.lk,h.rt.grown hg (by have:=h.lk;simp;omega),h.ru.grown hg (by have:=h.lk;simp;omega)⟩
theorem TS.below (h:TS w w1 k p n c xs a t i kk) (hb:Below w1.heap.size w1 w2):TS w w2 k p n c xs a t i kk:=h.step (grown_of_below hb _) (h.ps.below hb)
theorem TS.set (h:TS w w1 k p n c xs a t i kk) (j:Nat) (v:Int) {t' i' k':Int} (hu:TrIn (w1.setCell ⟨w.heap.size+1,j,none⟩ (.int .i64 v)) (w.heap.size+1) t' i' k'):TS w (w1.setCell ⟨w.heap.size+1,j,none⟩ (.int .i64 v)) k p n c xs a t' i' k' :=
 ⟨h.ps.off (grown_set _ _ _ _) (fun r hr=>by cases hr;have:=h.lk;omega),grown_set_new h.gr _ _ _ (by omega),h.lk,h.rt.grown (grown_set _ _ _ _) (by simp),hu⟩
end
set_option maxHeartbeats 1600000 in
set_option maxRecDepth 100000 in
theorem transform_any (p:Option Addr) (n c:Nat) (xs:List Int) (w:World) (k:Nat) (h:PS w k p n c xs 0) (r:Option Tr) (hr:trV xs=r) :
  Calls Tryz.prog 143 #[.pointer (some ⟨k,0,none⟩)] w (GotTr w k r):=by
 have hlen:=h.here.len
 have hrng:=h.here.rng
 have hnle:=h.here.le
 unfold trV at hr
 rw [hlen] at hr
 obtain ⟨x0,hx0⟩ : ∃ x0,xs.getD 0 0=x0:=⟨_,rfl⟩
 obtain ⟨x1,hx1⟩ : ∃ x0,xs.getD 1 0=x0:=⟨_,rfl⟩
 obtain ⟨y2,hy2⟩ : ∃ x0,w2 xs 2=x0:=⟨_,rfl⟩
 obtain ⟨y4,hy4⟩ : ∃ x0,w2 xs 4=x0:=⟨_,rfl⟩
 obtain ⟨y6,hy6⟩ : ∃ x0,w2 xs 6=x0:=⟨_,rfl⟩
 have b0:=rng_getD hrng 0
 have b2:=w2_bdP xs hrng 2
 have b6:=w2_bdP xs hrng 6
 rw [hx0] at b0
 rw [hy2] at b2
 rw [hy6] at b6
 rw [hx0,hy2,hy4,hy6] at hr
 have HR:=hidden hr
 have HX0:=hidden hx0
 have HX1:=hidden hx1
 have HY2:=hidden hy2
 have HY4:=hidden hy4
 have HY6:=hidden hy6
 have h0:Below w.heap.size w ((w.alloc (.cells #[.int .i64 0,.int .i64 0,.int .i64 0] 118)).alloc (.cells #[.int .i64 0,.int .i64 0,.int .i64 0] 118)):=((Below.refl _ w).alloc (Nat.le_refl _) _).alloc (by simp) _
 have HS0:Hid (TS w ((w.alloc (.cells #[.int .i64 0,.int .i64 0,.int .i64 0] 118)).alloc (.cells #[.int .i64 0,.int .i64 0,.int .i64 0] 118)) k p n c xs 0 0 0 0):=hidden ⟨h.below h0,grown_of_below h0 (some k),h.lt,(TrIn.new w 0 0 0 118).below ((Below.refl _ _).alloc (Nat.le_refl _) _),by
  have:=TrIn.new (w.alloc (.cells #[.int .i64 0,.int .i64 0,.int .i64 0] 118)) 0 0 0 118
  simpa using this⟩
 clear hr h hx0 hx1 hy2 hy4 hy6 hrng hlen h0
 go_enter Tryz.func143,Tryz.ntmps143
 go_wp2_with fail
 go_at_call 136
 (with_reducible refine (pn1 p n c xs _ k 0 HS0.out.ps x0 HX0.out).mono ?_)
 rintro e w1 ⟨hg1,⟨hi1,rfl,hps1⟩ | ⟨hi1,ht⟩⟩
 rotate_left
 ·subst ht
  exact ⟨rfl,gottr_none (grown_trans HS0.out.gr hg1) (by rw [←HR.out,if_pos (by omega)]) rfl⟩
 have HS1:=hidden (HS0.out.step hg1 hps1)
 clear HS0 hg1 hps1
 have HS2:=hidden (HS1.out.set 0 x0 (HS1.out.ru.set0 x0))
 have u1:=HS1.out.ru.c0
 have fr1:=HS1.out.ru.fr
 go_wp2_with fail
 clear u1 fr1
 go_at_call 136
 (with_reducible refine (pn1 p n c xs _ k 1 HS2.out.ps x1 HX1.out).mono ?_)
 rintro e w2 ⟨hg1,⟨hi2,rfl,hps1⟩ | ⟨hi2,ht⟩⟩
 rotate_left
 ·subst ht
  exact ⟨rfl,gottr_none (grown_trans HS2.out.gr hg1) (by rw [←HR.out,if_pos (by omega)]) rfl⟩
 have HS3:=hidden (HS2.out.step hg1 hps1)
 clear HS1 HS2 hg1 hps1
 go_wp2_with fail
 go_at_call 136
 (with_reducible refine (pn2 p n c xs _ k 2 HS3.out.ps y2 HY2.out).mono ?_)
 rintro e w3 ⟨hg1,⟨hi3,rfl,hps1⟩ | ⟨hi3,ht⟩⟩
 rotate_left
 ·subst ht
  exact ⟨rfl,gottr_none (grown_trans HS3.out.gr hg1) (by rw [←HR.out,if_pos (by omega)]) rfl⟩
 have HS4:=hidden (HS3.out.step hg1 hps1)
 clear HS3 hg1 hps1
 have HS5:=hidden (HS4.out.set 1 y2 (HS4.out.ru.set1 y2))
 have u1:=HS4.out.ru.c1
 have fr1:=HS4.out.ru.fr
 go_wp2_with fail
 clear u1 fr1
 have hr:=HR.out
 rw [if_neg (by omega)] at hr
 have HR2:=hidden hr
 clear hr HR HS4
 obtain ⟨b,hb⟩ : ∃ b,b=decide (4<n):=⟨_,rfl⟩
 go_at_call 124
 (with_reducible refine (pl p n c xs _ k 4 HS5.out.ps b hb).mono ?_)
 rintro e w6 ⟨rfl,hb6,-⟩
 have HS6:=hidden (HS5.out.below hb6)
 clear hb6 HS5
 have HB:=hidden hb
 clear hb
 by_cases h4:n=4
 ·obtain rfl:b=false:=by rw [HB.out];simp;omega
  have hr:=HR2.out
  rw [if_pos h4] at hr
  have HR3:=hidden hr
  clear hr HR2
  go_wp2_with fail
  go_at_call 124
  (with_reducible refine (pl p n c xs _ k 4 HS6.out.ps false HB.out).mono ?_)
  rintro e w7 ⟨rfl,hb7,-⟩
  have HS7:=hidden (HS6.out.below hb7)
  clear HS6 hb7
  have c0:=HS7.out.ru.c0
  have c1:=HS7.out.ru.c1
  have c2:=HS7.out.ru.c2
  have d0:=HS7.out.rt.c0
  have d1:=HS7.out.rt.c1
  have d2:=HS7.out.rt.c2
  have fr:=HS7.out.rt.fr
  go_wp2_with (go_at_call 138;(with_reducible refine (need_yes _).mono ?_);rintro e w8 ⟨rfl,rfl⟩)
  refine ret_tr rfl rfl rfl (((HS7.out.rt.set0 x0).set1 y2).set2 0) (gottr_some ?_ HR3.out.symm (intT_of (by omega) b2 (by omega)))
  exact grown_set_new (grown_set_new (grown_set_new HS7.out.gr _ _ _ (Nat.le_refl _)) _ _ _ (Nat.le_refl _)) _ _ _ (Nat.le_refl _)
 ·obtain rfl:b=true:=by rw [HB.out];simp;omega
  have hr:=HR2.out
  rw [if_neg h4] at hr
  have HR3:=hidden hr
  clear hr HR2
  go_wp2_with fail
  go_at_call 136
  (with_reducible refine (pn2 p n c xs _ k 4 HS6.out.ps y4 HY4.out).mono ?_)
  rintro e w7 ⟨hg1,⟨hi4,rfl,hps1⟩ | ⟨hi4,ht⟩⟩
  rotate_left
  ·subst ht
   exact ⟨rfl,gottr_none (grown_trans HS6.out.gr hg1) (by rw [←HR3.out,if_pos (by omega)]) rfl⟩
  have HS7:=hidden (HS6.out.step hg1 hps1)
  clear HS6 hg1 hps1
  go_wp2_with fail
  go_at_call 138
  (refine (need_any _ _).mono ?_)
  rintro e w8 ⟨rfl,⟨ht,rfl⟩ | ⟨ht,hth⟩⟩
  rotate_left
  ·subst hth
   exact ⟨rfl,gottr_none HS7.out.gr (by rw [←HR3.out,if_pos (by simp at ht;omega)]) rfl⟩
  replace ht:y4=32782:=by simpa using ht
  have HE4:=hidden ht
  clear ht
  go_wp2_with fail
  go_at_call 136
  (with_reducible refine (pn2 p n c xs _ k 6 HS7.out.ps y6 HY6.out).mono ?_)
  rintro e w8 ⟨hg1,⟨hi5,rfl,hps1⟩ | ⟨hi5,ht⟩⟩
  rotate_left
  ·subst ht
   exact ⟨rfl,gottr_none (grown_trans HS7.out.gr hg1) (by rw [←HR3.out,if_pos (by omega)]) rfl⟩
  have HS8:=hidden (HS7.out.step hg1 hps1)
  clear HS7 hg1 hps1
  have HS9:=hidden (HS8.out.set 2 y6 (HS8.out.ru.set2 y6))
  have u1:=HS8.out.ru.c2
  have fr1:=HS8.out.ru.fr
  go_wp2_with fail
  clear u1 fr1
  go_at_call 138
  (refine (need_any _ _).mono ?_)
  rintro e w9 ⟨rfl,⟨ht,rfl⟩ | ⟨ht,hth⟩⟩
  rotate_left
  ·subst hth
   exact ⟨rfl,gottr_none HS9.out.gr (by rw [←HR3.out,if_pos (by simp at ht;omega)]) rfl⟩
  replace ht:y6≠0:=by simpa using ht
  have HE6:=hidden ht
  clear ht
  obtain ⟨b,hb⟩ : ∃ b,b=decide (8<n):=⟨_,rfl⟩
  have HB2:=hidden hb
  clear hb HS8
  go_wp2_with fail
  go_at_call 124
  (with_reducible refine (pl p n c xs _ k 8 HS9.out.ps b HB2.out).mono ?_)
  rintro e wA ⟨rfl,hb7,-⟩
  have HSA:=hidden (HS9.out.below hb7)
  clear HS9 hb7
  go_wp2_with fail
  go_at_call 138
  (refine (need_any _ _).mono ?_)
  rintro e wB ⟨rfl,⟨ht,rfl⟩ | ⟨ht,hth⟩⟩
  rotate_left
  ·subst hth
   exact ⟨rfl,gottr_none HSA.out.gr (by rw [←HR3.out,if_pos (by have:=HB2.out;simp at ht this;rw [ht] at this;simp at this;omega)]) rfl⟩
  have h8:n=8:=by have:=HB2.out;simp at ht this;rw [ht] at this;simp at this;omega
  have H8:=hidden h8
  clear ht h8
  have c0:=HSA.out.ru.c0
  have c1:=HSA.out.ru.c1
  have c2:=HSA.out.ru.c2
  have d0:=HSA.out.rt.c0
  have d1:=HSA.out.rt.c1
  have d2:=HSA.out.rt.c2
  have fr:=HSA.out.rt.fr
  have hr:=HR3.out
  rw [if_neg (by have:=H8.out;have:=HE4.out;have:=HE6.out;omega)] at hr
  have HR4:=hidden hr
  clear hr HR3
  go_wp2
  refine ret_tr rfl rfl rfl (((HSA.out.rt.set0 x0).set1 y2).set2 y6) (gottr_some ?_ HR4.out.symm (intT_of (by omega) b2 b6))
  exact grown_set_new (grown_set_new (grown_set_new HSA.out.gr _ _ _ (Nat.le_refl _)) _ _ _ (Nat.le_refl _)) _ _ _ (Nat.le_refl _)
end Go.Proofs.YtgpigjoonhghhaaGreat

namespace Go.Proofs.YtgpigjoonhghhaaGreat
open Go.RowKit
set_option linter.unusedVariables false
set_option maxHeartbeats 400000 in
theorem rnumber_yes (p:Option Addr) (n c:Nat) (xs:List Int) (w:World) (h:Byt w p n c xs) (a k:Nat) (h1:1≤k) (h8:k≤8) (hin:a+k≤n) :
  Calls Tryz.prog 42 #[.slice p n c,.int .i64 a,.int .i64 k] w fun e w'=>e=.returned (.tuple #[.int .u64 (val ((xs.drop a).take k)),.bool true])∧w=w':=by
 have hn:=h.le
 have hcap:=h.cap
 obtain ⟨b,o,rfl,hc⟩:=h.at_ (by omega)
 have hl:((xs.drop a).take k).length=k:=by have:=h.len;simp;omega
 have hr : ∀ x∈(xs.drop a).take k,0≤x∧x≤255:=rng_take (rng_drop h.rng _) _
 have hcc : ∀ j,j<k→w.cell? ⟨b,o+(a+j),none⟩=some (.int .u8 (((xs.drop a).take k).getD j 0)):=fun j hj=>by
  rw [hc (a+j) (by omega)]
  simp [List.getD_eq_getElem?_getD,List.getElem?_take_of_lt hj]
 generalize (xs.drop a).take k=ys at hl hr hcc
 clear hc h
 go_enter Tryz.func42,Tryz.ntmps42
 go_wp2
 go_loop [8,9] (fun v i=>∃ j:Nat,j≤k∧i=.int .i64 ((a+j:Nat):Int)∧v=.int .u64 (val (ys.take j))) (fun _ i=>a+k - (intOf i).toNat)
 case atStart=>exact ⟨0,by omega,rfl,rfl⟩
 case round =>
  obtain ⟨j,hj,rfl,rfl⟩:=hrel
  by_cases hlt:j<k
  ·have hcell:=hcc j hlt
   have hb:=rng_getD hr j
   have hv:=val_56 (ys.take j) (rng_take hr j) (by simp;omega)
   have hs:=hidden (val_step ys j (by omega))
   have ho:=or_byte (val (ys.take j)) (ys.getD j 0) hv.1 hv.2 hb.1 hb.2
   generalize val (ys.take j)=v at *
   generalize ys.getD j 0=x at *
   clear hcc hr hl
   go_wp2
   go_round
   case rel=>exact ⟨j+1,by omega,by go_num,by rw [hs.out]⟩
   case measure=>simp [intOf];omega
  ·obtain rfl:j=k:=by omega
   have hy:ys.take j=ys:=List.take_of_length_le (by omega)
   clear hcc hr
   go_wp2
   go_ret2
   exact ⟨rfl,rfl⟩
end Go.Proofs.YtgpigjoonhghhaaGreat

namespace Go.Proofs.YtgpigjoonhghhaaGreat
open Go.RowKit
set_option linter.unusedVariables false
def RawP.bod (x:RawP) (w:World) (base:Nat):Prop:=Bod w base x.p x.n x.m x.b
structure Rws (w:World) (base:Nat) (v:Value) (l:List RawP):Prop where
 own:OwnRw w base 51 v l
 bods : ∀ x∈l,x.bod w base
theorem Rws.nil (w:World) (base:Nat):Rws w base (.slice none 0 0) []:=⟨OwnRw.nil _ _ _,fun x hx=>by cases hx⟩
theorem Rws.bodR {w:World} {base:Nat} {v:Value} {l:List RawP} (h:Rws w base v l):BodR w l:=fun x hx=>(h.bods x hx).byt
theorem Rws.mono {w:World} {base base':Nat} {v:Value} {l:List RawP} (h:Rws w base v l) (hb:base'≤base):Rws w base' v l:=by
 refine ⟨⟨h.own.1,?_⟩,fun x hx=>(h.bods x hx).mono hb⟩
 rcases h.own.2 with h1 | ⟨g,cap,cur,hv,hg,rest⟩
 ·exact Or.inl h1
 ·exact Or.inr ⟨g,cap,cur,hv,by omega,rest⟩
theorem Rws.grown {w w':World} {base:Nat} {v:Value} {l:List RawP} {row:Option Nat} (h:Rws w base v l) (hg:w.grownBy w' row) (hne : ∀ r,row=some r→v.ownBlock≠some r) (hr:OffB w base row):Rws w' base v l :=
 ⟨World.ownsRow.kept h.own hg (by
  rcases hv:v.ownBlock with _ | b
  ·exact Or.inl rfl
  ·refine Or.inr ?_
   intro e
   rcases hrow:row with _ | r
   ·rw [hrow] at e;cases e
   ·rw [hrow] at e
    cases e
    exact hne _ hrow hv),fun x hx=>(h.bods x hx).grown hg hr⟩
theorem Rws.low {w w':World} {base k:Nat} {v:Value} {l:List RawP} (h:Rws w base v l) (hg:w.grownBy w' (some k)) (hk:k<base):Rws w' base v l :=
 h.grown hg (fun r hr e=>by cases hr;have:=(h.own.lt k e).1;omega) (OffB.low hk)
theorem Rws.below {w w':World} {base:Nat} {v:Value} {l:List RawP} (h:Rws w base v l) (hb:Below w.heap.size w w'):Rws w' base v l :=
 h.grown (row:=none) ⟨hb.os,hb.tape,hb.output,hb.size,fun i hi _=>hb.block i hi⟩ (fun r hr=>by cases hr) (OffB.none _ _)
theorem Rws.alloc {w:World} {base:Nat} {v:Value} {l:List RawP} (h:Rws w base v l) (o:Obj):Rws (w.alloc o) base v l:=h.below ((Below.refl _ w).alloc (Nat.le_refl _) o)
theorem Rws.offB {w:World} {base base':Nat} {v:Value} {l:List RawP} (h:Rws w base v l):OffB w base' v.ownBlock:=fun r hr=>by
 rcases h.own.2 with ⟨rfl,_⟩ | ⟨g,cap,cur,rfl,hg,hh,_⟩
 ·simp [Value.ownBlock] at hr
 ·simp [Value.ownBlock] at hr
  subst hr
  exact Or.inr (fun cur' fz' e=>by rw [hh] at e;simp at e)
def SrcR (w:World) (p:Option Addr) (m:Nat) (r:List RawP):Prop:=r.length=m∧(0<m→∃ ad,p=some ad∧∀ j u,(rowC r)[j]?=some u→w.cell? (ad.add j)=some u)
theorem Rws.src {w:World} {base:Nat} {p:Option Addr} {m c:Nat} {l:List RawP} (h:Rws w base (.slice p m c) l):SrcR w p m l:=by
 obtain ⟨p',c',e,_⟩:=h.own.form
 simp at e
 obtain ⟨rfl,rfl,rfl⟩:=e
 refine ⟨rfl,fun h0=>?_⟩
 obtain ⟨g,c',hv,_,_,_,_,hc,_⟩:=h.own.at_ rfl h0
 simp at hv
 obtain ⟨rfl,rfl⟩:=hv
 exact ⟨_,rfl,fun j u hj=>by rw [WideShapes.add_plain,Nat.zero_add];exact hc j u hj⟩
theorem SrcR.one {w:World} {b:Nat} {x:RawP} (h0:w.cell? ⟨b,0,none⟩=some (.int .i64 x.k)) (h1:w.cell? ⟨b,1,none⟩=some (.bool x.c)) (h2:w.cell? ⟨b,2,none⟩=some (.slice x.p x.n x.m)):SrcR w (some ⟨b,0,none⟩) 1 [x] :=
 ⟨rfl,fun _=>⟨_,rfl,fun j u hj=>by
  rw [WideShapes.add_plain,Nat.zero_add]
  have hl:j<3:=by have:=(List.getElem?_eq_some_iff.1 hj).1;simpa [rowC,RawP.cells] using this
  have:j=0∨j=1∨j=2:=by omega
  rcases this with rfl | rfl | rfl<;>simp [rowC,RawP.cells] at hj<;>subst hj
  ·exact h0
  ·exact h1
  ·exact h2⟩⟩
theorem SrcR.new (w:World) (k:Int) (c:Bool) (p:Option Addr) (n m:Nat) (b:List Int) (T:TypeId):SrcR (w.alloc (.cells #[.int .i64 k,.bool c,.slice p n m] T)) (some ⟨w.heap.size,0,none⟩) 1 [⟨k,c,p,n,m,b⟩] :=
 SrcR.one (by go_simp) (by go_simp) (by go_simp)
theorem Tryz.infoRaw:(Tryz.prog.info? 51).map (fun i=>(i.zero,i.size,i.bytes))=some (some (.agg #[.int .i64 0,.bool false,.slice none 0 0]),3,40):=by kernel_rfl
theorem run_append_rws (w:World) (base:Nat) (ty:TypeId) (v:Value) (l:List RawP) (h:Rws w base v l) (p:Option Addr) (m c:Nat) (r:List RawP) (hs:SrcR w p m r) (hr : ∀ x∈r,x.bod w base) (hb:l.length+m≤1000000) (hbase:base≤w.heap.size) :
  ∃ v' w',(Builtin.append_ #[34,34] ty #[v,.slice p m c]).run Tryz.prog w=.ok v' w'∧Rws w' base v' (l++r)∧w.grownBy w' v.ownBlock:=by
 obtain ⟨i0,hi,hz0,hz1,hz2⟩:=info_parts Tryz.infoRaw
 have ht:=Tryz.underlying34
 have key : ∀ {w':World},w.grownBy w' v.ownBlock→∀ x∈l++r,x.bod w' base:=fun hg x hx=>by
  rcases List.mem_append.1 hx with hx | hx
  ·exact (h.bods x hx).grown hg h.offB
  ·exact (hr x hx).grown hg h.offB
 cases p with
 | none =>
  have hm:m=0:=by
   rcases Nat.eq_zero_or_pos m with h0 | h0
   ·exact h0
   ·obtain ⟨ad,e,_⟩:=hs.2 h0
    cases e
  subst hm
  obtain rfl:r=[]:=List.eq_nil_of_length_eq_zero hs.1
  refine ⟨v,w,?_,by rw [List.append_nil];exact h,World.grownBy.refl w _⟩
  rcases h.own.2 with ⟨rfl,hx⟩ | ⟨g,cap,cur,rfl,_,_,hnc,_⟩
  ·simp [Builtin.append_,run_underlying ht,sizeOf,typeInfo,hi,Builtin.lenOf,Builtin.firstCells]
  ·simp [Builtin.append_,run_underlying ht,sizeOf,typeInfo,hi,Builtin.lenOf,Builtin.firstCells,hnc,storeCells]
 | some a =>
  have hcells : ∀ j u,(rowC r)[j]?=some u→w.cell? (a.add j)=some u:=by
   intro j u hj
   rcases Nat.eq_zero_or_pos m with h0 | h0
   ·have:r=[]:=List.eq_nil_of_length_eq_zero (hs.1.trans h0)
    subst this
    simp [rowC] at hj
   ·obtain ⟨ad,e,hc⟩:=hs.2 h0
    cases e
    exact hc j u hj
  obtain ⟨v',w',hrun,h2,h3,_⟩:=run_append_own (P:=Tryz.prog) w base 34 ty 51 i0 _ 3 40 ht hi hz0 hz1 hz2 rfl (by decide) v l.length (rowC l) h.own a m c (rowC r) (by rw [rowC_len,hs.1])
   hcells (rowC_one r) (by unfold maxLen;omega) (by omega) hbase
  refine ⟨v',w',hrun,⟨?_,key h3⟩,h3⟩
  unfold OwnRw
  rw [List.length_append,rowC_append,hs.1]
  exact h2
end Go.Proofs.YtgpigjoonhghhaaGreat

namespace Go.Proofs.YtgpigjoonhghhaaGreat
open Go.RowKit
set_option linter.unusedVariables false
theorem getD_dropC (xs:List Int) (a i:Nat):(xs.drop a).getD i 0=xs.getD (a+i) 0:=by simp [List.getD_eq_getElem?_getD,List.getElem?_drop]
theorem lenC_bd (xs:List Int) (h : ∀ x∈xs,0≤x∧x≤255):0≤lenC xs∧lenC xs≤65535:=by
 have h2:=rng_getD h 2
 have h3:=rng_getD h 3
 unfold lenC
 omega
theorem headC_at (kind:Int) (xs:List Int) (a:Nat):headC kind (xs.drop a)=⟨kind,decide (128≤xs.getD (a+1) 0),(xs.drop (a+4)).take ((lenC (xs.drop a)).toNat - 4)⟩:=by
 rw [headC,getD_dropC,List.drop_drop]
section
variable {left:Nat} {kind:Int} {xs:List Int} {a:Nat} {out:List Raw}
theorem round_end (h:kind=0):preC out (parseC left kind (xs.drop a))=if xs.length - a≠0 then failC 2 else ⟨out,0,0⟩:=by
 subst h
 rw [parseC_end,List.length_drop]
 split
 ·exact preC_fail _ _ (by decide)
 ·simp [preC]
theorem round_many (h:kind≠0):preC out (parseC 0 kind (xs.drop a))=failC 10:=by rw [parseC_many _ _ h,preC_fail _ _ (by decide)]
theorem round_short (h:kind≠0) (h4:xs.length - a<4):preC out (parseC (left+1) kind (xs.drop a))=failC 1:=by
 rw [parseC_more _ _ _ h,List.length_drop,if_pos h4,preC_fail _ _ (by decide)]
theorem round_wrong (h:kind≠0) (h4:4≤xs.length - a) (hl:lenC (xs.drop a)<4∨((xs.length - a:Nat):Int)<lenC (xs.drop a)):preC out (parseC (left+1) kind (xs.drop a))=failC 2:=by
 rw [parseC_more _ _ _ h,List.length_drop,if_neg (by omega),if_pos hl,preC_fail _ _ (by decide)]
theorem round_last (h:kind≠0) (h4:4≤xs.length - a) (hl:¬ (lenC (xs.drop a)<4∨((xs.length - a:Nat):Int)<lenC (xs.drop a))) (hk:lastK kind=true) :
  preC out (parseC (left+1) kind (xs.drop a))=if ((xs.length - a:Nat):Int)≠lenC (xs.drop a) then failC 2 else ⟨out++[headC kind (xs.drop a)],xs.getD a 0,0⟩:=by
 rw [parseC_more _ _ _ h,List.length_drop,if_neg (by omega),if_neg hl,if_pos hk]
 split
 ·exact preC_fail _ _ (by decide)
 ·rw [getD_dropC]
  simp [preC]
theorem round_more (h:kind≠0) (h4:4≤xs.length - a) (hl:¬ (lenC (xs.drop a)<4∨((xs.length - a:Nat):Int)<lenC (xs.drop a))) (hk:¬ lastK kind=true) :
  preC out (parseC (left+1) kind (xs.drop a))=preC (out++[headC kind (xs.drop a)]) (parseC left (xs.getD a 0) (xs.drop (a+(lenC (xs.drop a)).toNat))):=by
 rw [parseC_more _ _ _ h,List.length_drop,if_neg (by omega),if_neg hl,if_neg hk,preC_pre,getD_dropC,List.drop_drop]
 rfl
end
section
variable {last:Int} {l:List Raw}
theorem enc_step (i:Nat) (hi:i<l.length):encC last (l.drop i)=oneC (nextC last (l.drop (i+1))) l[i]++encC last (l.drop (i+1)):=by
 rw [List.drop_eq_getElem_cons hi]
 rfl
theorem enc_end (i:Nat) (hi:l.length≤i):encC last (l.drop i)=[]:=by
 rw [List.drop_of_length_le hi]
 rfl
theorem next_more (i:Nat) (hi:i+1<l.length):nextC last (l.drop (i+1))=l[i+1].k:=by
 rw [List.drop_eq_getElem_cons hi]
 rfl
theorem next_end (i:Nat) (hi:l.length≤i+1):nextC last (l.drop (i+1))=last:=by
 rw [List.drop_of_length_le hi]
 rfl
theorem err_step (i:Nat) (hi:i<l.length):errC (l.drop i)=if l[i].k<1∨255<l[i].k then 5 else if 65531<l[i].b.length then 11 else if lastK l[i].k=true∧i+1<l.length then 7 else errC (l.drop (i+1)):=by
 rw [List.drop_eq_getElem_cons hi,errC]
 have:(l.drop (i+1)≠[])↔i+1<l.length:=by
  rw [ne_eq,List.drop_eq_nil_iff]
  omega
 simp only [this]
theorem err_end (i:Nat) (hi:l.length≤i):errC (l.drop i)=0:=by
 rw [List.drop_of_length_le hi]
 rfl
theorem ends_last : ∀ (l:List Raw) (h:0<l.length),endsC l=lastK (l[l.length - 1]).k
 | [r],_=>rfl
 | _ :: r :: l,_=>by
  rw [endsC,ends_last (r :: l) (by simp)]
  simp
end
end Go.Proofs.YtgpigjoonhghhaaGreat

namespace Go.Proofs.YtgpigjoonhghhaaGreat
open Go.RowKit
set_option linter.unusedVariables false
structure RdR (w:World) (p:Option Addr) (n c:Nat) (l:List RawP):Prop where
 len:l.length=n
 cap:n≤c
 big:c≤maxLen
 mem:0<n→∃ g,p=some ⟨g,0,none⟩∧∀ j u,(rowC l)[j]?=some u→w.cell? ⟨g,j,none⟩=some u
 bods:BodR w l
theorem RdR.keep {w w':World} {p:Option Addr} {n c:Nat} {l:List RawP} (h:RdR w p n c l) (hk : ∀ a v,w.cell? a=some v→w'.cell? a=some v):RdR w' p n c l :=
 ⟨h.len,h.cap,h.big,fun h0=>by
  obtain ⟨g,e,hc⟩:=h.mem h0
  exact ⟨g,e,fun j u hj=>hk _ _ (hc j u hj)⟩,h.bods.keep hk⟩
theorem RdR.below {w w':World} {p:Option Addr} {n c:Nat} {l:List RawP} (h:RdR w p n c l) (hb:Below w.heap.size w w'):RdR w' p n c l:=h.keep (cell_below hb)
theorem RdR.le {w:World} {p:Option Addr} {n c:Nat} {l:List RawP} (h:RdR w p n c l):n≤9223372036854775807:=by
 have h1:=h.cap
 have h2:=h.big
 unfold maxLen at h2
 omega
theorem RdR.elem {w:World} {p:Option Addr} {n c:Nat} {l:List RawP} (h:RdR w p n c l) (j:Nat) (hj:j<l.length) :
  ∃ g,p=some ⟨g,0,none⟩∧w.cell? ⟨g,j*3,none⟩=some (.int .i64 l[j].k)∧w.cell? ⟨g,j*3+1,none⟩=some (.bool l[j].c)∧w.cell? ⟨g,j*3+2,none⟩=some (.slice l[j].p l[j].n l[j].m)∧Byt w l[j].p l[j].n l[j].m l[j].b:=by
 obtain ⟨g,e,hc⟩:=h.mem (by have:=h.len;omega)
 obtain ⟨h0,h1,h2⟩:=rowC_get l j hj
 exact ⟨g,e,hc _ _ h0,hc _ _ h1,hc _ _ h2,h.bods _ (List.getElem_mem hj)⟩
theorem Rws.rd {w:World} {base:Nat} {v:Value} {l:List RawP} {n:Nat} (h:Rws w base v l) (hn:l.length=n) : ∃ p c,v=.slice p n c∧RdR w p n c l:=by
 subst hn
 have hb:=h.bodR
 rcases h.own.2 with ⟨rfl,h0⟩ | ⟨g,cap,cur,rfl,hg,hh,hnc,hm,hs,ht⟩
 ·exact ⟨none,0,by rw [h0],rfl,by omega,by unfold maxLen;omega,fun h=>by omega,hb⟩
 ·refine ⟨_,_,rfl,rfl,hnc,hm,fun h0=>⟨g,rfl,fun j u hj=>?_⟩,hb⟩
  have:=World.ownsRow.cells h.own (g:=g) rfl j u hj
  rw [WideShapes.add_plain,Nat.zero_add] at this
  exact this
theorem wraps_any (k:Int) (w:World):Calls Tryz.prog 81 #[.int .i64 k] w fun e w'=>e=.returned (.bool (lastK k))∧w=w':=by
 go_enter Tryz.func81,Tryz.ntmps81
 go_wp2
 all_goals go_ret
 all_goals exact ⟨by simp_all [lastK],rfl⟩
theorem last_any (k:Int) (w:World):Calls Tryz.prog 19 #[.int .i64 k] w fun e w'=>e=.returned (.bool (lastK k))∧w=w':=by
 go_enter Tryz.func19,Tryz.ntmps19
 go_wp2
 all_goals go_ret
 all_goals exact ⟨by simp_all [lastK],rfl⟩
def knownK (k:Int):Bool:=decide ((33≤k∧k≤37)∨(39≤k∧k≤46)∨k=53)
theorem known_any (k:Int) (w:World):Calls Tryz.prog 49 #[.int .i64 k] w fun e w'=>e=.returned (.bool (knownK k))∧w=w':=by
 by_cases h:(33≤k∧k≤37)∨(39≤k∧k≤46)∨k=53
 ·have e:knownK k=true:=decide_eq_true h
  rw [e]
  have hk:k=33∨k=34∨k=35∨k=36∨k=37∨k=39∨k=40∨k=41∨k=42∨k=43∨k=44∨k=45∨k=46∨k=53:=by omega
  clear h e
  rcases hk with rfl | rfl | rfl | rfl | rfl | rfl | rfl | rfl | rfl | rfl | rfl | rfl | rfl | rfl
  all_goals
   go_enter Tryz.func49,Tryz.ntmps49
   go_wp2
   go_ret
   exact ⟨rfl,rfl⟩
 ·have e:knownK k=false:=decide_eq_false h
  rw [e]
  have e1:(k == 33)=false:=by simp;omega
  have e2:(k == 34)=false:=by simp;omega
  have e3:(k == 35)=false:=by simp;omega
  have e4:(k == 36)=false:=by simp;omega
  have e5:(k == 37)=false:=by simp;omega
  have e6:(k == 39)=false:=by simp;omega
  have e7:(k == 40)=false:=by simp;omega
  have e8:(k == 41)=false:=by simp;omega
  have e9:(k == 42)=false:=by simp;omega
  have e10:(k == 43)=false:=by simp;omega
  have e11:(k == 44)=false:=by simp;omega
  have e12:(k == 45)=false:=by simp;omega
  have e13:(k == 46)=false:=by simp;omega
  have e14:(k == 53)=false:=by simp;omega
  clear h e
  go_enter Tryz.func49,Tryz.ntmps49
  go_wp2
  go_ret
  exact ⟨rfl,rfl⟩
end Go.Proofs.YtgpigjoonhghhaaGreat
