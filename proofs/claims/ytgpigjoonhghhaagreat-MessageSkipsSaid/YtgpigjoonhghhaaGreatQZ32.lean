/-
 What the law PayloadReturns uses: drawn payloads are written; the twelve kinds at once.
 Package payload's Parse at any type.
 The first error of a message (message.Check).
 Every error of a message's parts has a notification; the sizes and types of the raw payloads of a chain.
 Pure facts of messages: what a message that was made is written as, and what is read of it again.
 What two readers of one body return is the same.
-/
import Derived.Test.YtgpigjoonhghhaaGreatQZ8
import Derived.Test.YtgpigjoonhghhaaGreatQZ19
import Derived.Test.YtgpigjoonhghhaaGreatQZ21
import Derived.Test.YtgpigjoonhghhaaGreatQZ7
import Derived.Test.YtgpigjoonhghhaaGreatQZ15
import Derived.Test.YtgpigjoonhghhaaGreatQZ2
import Derived.Test.YtgpigjoonhghhaaGreatQZ5
import Derived.Test.YtgpigjoonhghhaaGreatQZ1
import Derived.Test.YtgpigjoonhghhaaGreatQZ14
namespace Go.Proofs.YtgpigjoonhghhaaGreat
open Go.RowKit
set_option linter.unusedVariables false
def Kind12 (t:Int):Prop:=t=33∨t=34∨t=35∨t=36∨t=39∨t=40∨t=41∨t=42∨t=44∨t=45∨t=37∨t=43
theorem pk_any (t:Int) (ht:Kind12 t) (p:Option Addr) (n c:Nat) (xs:List Int) (cr:Bool) (w:World) (h:Byt w p n c xs) (hn:n≤1048576) :
  Calls Tryz.prog 50 #[.agg #[.int .i64 t,.bool cr,.slice p n c]] w (ParsedV w t (parseE t xs) (gdK t xs)):=by
 rcases ht with rfl | rfl | rfl | rfl | rfl | rfl | rfl | rfl | rfl | rfl | rfl | rfl
 ·exact pk_33 p n c xs cr w h hn
 ·exact pk_34 p n c xs cr w h hn
 ·exact pk_35 p n c xs cr w h hn
 ·exact pk_36 p n c xs cr w h hn
 ·exact pk_39 p n c xs cr w h hn
 ·exact pk_40 p n c xs cr w h hn
 ·exact pk_41 p n c xs cr w h hn
 ·exact pk_42 p n c xs cr w h hn
 ·exact pk_44 p n c xs cr w h hn
 ·exact pk_45 p n c xs cr w h hn
 ·exact pk_37 p n c xs cr w h hn
 ·exact pk_43 p n c xs cr w h hn
theorem vld_build (x:Pv) (C:Pc) (w:World) (h:PvRd w x C) (hn:NumOk x) (hv:Vld x C) (hk:Kind12 x.t):(buildB x C).2=0∧(buildB x C).1.length≤8000∧PvSz x:=by
 obtain ⟨n1,n2,n3,n4⟩:=hn
 have hdl:=h.ds.len
 unfold buildB
 rcases hk with e | e | e | e | e | e | e | e | e | e | e | e
 ·have v:=(vld33 e).1 hv
  rw [if_pos e]
  have h1:=encPs_le (C.pr.map PrP.pr) (checkP_ok v).2.2
  have h2:=(checkP_ok v).2.1
  refine ⟨by unfold buildP;rw [v,if_neg (by simp)],?_,⟨fun h0=>by rw [e] at h0;exact absurd h0 (by decide),fun h0=>by rw [e] at h0;exact absurd h0 (by decide),fun h0=>by rw [e] at h0;exact absurd h0 (by decide),fun h0=>by rw [e] at h0;exact absurd h0 (by decide),fun h0=>by rw [e] at h0;exact absurd h0 (by decide),fun h0=>by rw [e] at h0;exact absurd h0 (by decide),fun a1 a2 a3 a4 a5 a6 a7 a8 a9=>absurd e a1⟩⟩
  unfold buildP
  rw [v,if_neg (by simp)]
  show (encPs _).length≤_
  omega
 ·have v:=(vld34 e).1 hv
  rw [if_neg (by rw [e];decide),if_pos e]
  have hl:=h.ed.len
  refine ⟨by show exchE _ _=0;unfold exchE;rw [if_neg (by omega),if_neg (by omega)],?_,⟨fun _=>by omega,fun h0=>by rw [e] at h0;exact absurd h0 (by decide),fun h0=>by rw [e] at h0;exact absurd h0 (by decide),fun h0=>by rw [e] at h0;exact absurd h0 (by decide),fun h0=>by rw [e] at h0;exact absurd h0 (by decide),fun h0=>by rw [e] at h0;exact absurd h0 (by decide),fun a1 a2 a3 a4 a5 a6 a7 a8 a9=>absurd e a2⟩⟩
  show (exchL _ _).length≤_
  simp [exchL]
  omega
 ·have v:=(vld35 e).1 hv
  rw [if_neg (by rw [e];decide),if_neg (by rw [e];decide),if_pos e]
  have hl:=h.id.len
  refine ⟨?_,?_,⟨fun h0=>by rw [e] at h0;exact absurd h0 (by decide),fun _=>by omega,fun h0=>by rw [e] at h0;exact absurd h0 (by decide),fun h0=>by rw [e] at h0;exact absurd h0 (by decide),fun h0=>by rw [e] at h0;exact absurd h0 (by decide),fun h0=>by rw [e] at h0;exact absurd h0 (by decide),fun a1 a2 a3 a4 a5 a6 a7 a8 a9=>absurd e a3⟩⟩
  ·show idE _ _=0
   obtain ⟨v1,v2,v3⟩:=v
   unfold idE
   rw [if_neg (by omega),if_neg (by omega),if_pos v1,if_neg (by omega)]
  ·show (headL _ _).length≤_
   simp [headL]
   omega
 ·have v:=(vld36 e).1 hv
  rw [if_neg (by rw [e];decide),if_neg (by rw [e];decide),if_neg (by rw [e];decide),if_pos e]
  have hl:=h.id.len
  refine ⟨?_,?_,⟨fun h0=>by rw [e] at h0;exact absurd h0 (by decide),fun _=>by omega,fun h0=>by rw [e] at h0;exact absurd h0 (by decide),fun h0=>by rw [e] at h0;exact absurd h0 (by decide),fun h0=>by rw [e] at h0;exact absurd h0 (by decide),fun h0=>by rw [e] at h0;exact absurd h0 (by decide),fun a1 a2 a3 a4 a5 a6 a7 a8 a9=>absurd e a4⟩⟩
  ·show idE _ _=0
   obtain ⟨v1,v2,v3⟩:=v
   unfold idE
   rw [if_neg (by omega),if_neg (by omega),if_pos v1,if_neg (by omega)]
  ·show (headL _ _).length≤_
   simp [headL]
   omega
 ·have v:=(vld39 e).1 hv
  rw [if_neg (by rw [e];decide),if_neg (by rw [e];decide),if_neg (by rw [e];decide),if_neg (by rw [e];decide),if_pos e]
  have hl:=h.ad.len
  refine ⟨?_,?_,⟨fun h0=>by rw [e] at h0;exact absurd h0 (by decide),fun h0=>by rw [e] at h0;exact absurd h0 (by decide),fun _=>by omega,fun h0=>by rw [e] at h0;exact absurd h0 (by decide),fun h0=>by rw [e] at h0;exact absurd h0 (by decide),fun h0=>by rw [e] at h0;exact absurd h0 (by decide),fun a1 a2 a3 a4 a5 a6 a7 a8 a9=>absurd e a5⟩⟩
  ·show authE _ _=0
   unfold authE
   rw [if_neg (by omega),if_neg (by omega)]
  ·show (headL _ _).length≤_
   simp [headL]
   omega
 ·have v:=(vld40 e).1 hv
  rw [if_neg (by rw [e];decide),if_neg (by rw [e];decide),if_neg (by rw [e];decide),if_neg (by rw [e];decide),if_neg (by rw [e];decide),if_pos e]
  have hl:=h.da.len
  refine ⟨?_,?_,⟨fun h0=>by rw [e] at h0;exact absurd h0 (by decide),fun h0=>by rw [e] at h0;exact absurd h0 (by decide),fun h0=>by rw [e] at h0;exact absurd h0 (by decide),fun h0=>by rw [e] at h0;exact absurd h0 (by decide),fun h0=>by rw [e] at h0;exact absurd h0 (by decide),fun h0=>by rw [e] at h0;exact absurd h0 (by decide),fun _ _ _ _ _ _ _ _ _=>by omega⟩⟩
  ·show nonceE _=0
   unfold nonceE
   rw [if_neg (by omega)]
  ·show C.da.length≤_
   omega
 ·have v:=(vld41 e).1 hv
  rw [if_neg (by rw [e];decide),if_neg (by rw [e];decide),if_neg (by rw [e];decide),if_neg (by rw [e];decide),if_neg (by rw [e];decide),if_neg (by rw [e];decide),if_pos e]
  have hl:=h.ns.len
  have hl2:=h.nd.len
  refine ⟨?_,?_,⟨fun h0=>by rw [e] at h0;exact absurd h0 (by decide),fun h0=>by rw [e] at h0;exact absurd h0 (by decide),fun h0=>by rw [e] at h0;exact absurd h0 (by decide),fun _=>by omega,fun _=>by omega,fun h0=>by rw [e] at h0;exact absurd h0 (by decide),fun a1 a2 a3 a4 a5 a6 a7 a8 a9=>absurd e a6⟩⟩
  ·show notifyE _ _ _=0
   unfold notifyE
   rw [if_neg (by omega),if_pos]
   rcases v with ⟨v1,v2⟩ | ⟨v1,v2⟩
   ·rw [v1,v2];rfl
   ·rw [v1,v2];rfl
  ·show (noteL _ _ _ _).length≤_
   simp [noteL]
   omega
 ·have v:=(vld42 e).1 hv
  rw [if_neg (by rw [e];decide),if_neg (by rw [e];decide),if_neg (by rw [e];decide),if_neg (by rw [e];decide),if_neg (by rw [e];decide),if_neg (by rw [e];decide),if_neg (by rw [e];decide),if_pos e]
  rcases v with ⟨v1,v2⟩ | ⟨v1,v2 | v2⟩
  ·have hd0:x.ds.n=0:=by rw [←hdl,v2];rfl
   rw [v1,v2]
   exact ⟨by decide,by decide,⟨fun h0=>by rw [e] at h0;exact absurd h0 (by decide),fun h0=>by rw [e] at h0;exact absurd h0 (by decide),fun h0=>by rw [e] at h0;exact absurd h0 (by decide),fun h0=>by rw [e] at h0;exact absurd h0 (by decide),fun h0=>by rw [e] at h0;exact absurd h0 (by decide),fun _=>by omega,fun a1 a2 a3 a4 a5 a6 a7 a8 a9=>absurd e a7⟩⟩
  ·have hd0:x.ds.n=1:=by rw [←hdl];have:=congrArg List.length v2;simpa using this
   rw [v1,v2]
   exact ⟨by decide,by decide,⟨fun h0=>by rw [e] at h0;exact absurd h0 (by decide),fun h0=>by rw [e] at h0;exact absurd h0 (by decide),fun h0=>by rw [e] at h0;exact absurd h0 (by decide),fun h0=>by rw [e] at h0;exact absurd h0 (by decide),fun h0=>by rw [e] at h0;exact absurd h0 (by decide),fun _=>by omega,fun a1 a2 a3 a4 a5 a6 a7 a8 a9=>absurd e a7⟩⟩
  ·have hd0:x.ds.n=2:=by rw [←hdl];have:=congrArg List.length v2;simpa using this
   rw [v1,v2]
   exact ⟨by decide,by decide,⟨fun h0=>by rw [e] at h0;exact absurd h0 (by decide),fun h0=>by rw [e] at h0;exact absurd h0 (by decide),fun h0=>by rw [e] at h0;exact absurd h0 (by decide),fun h0=>by rw [e] at h0;exact absurd h0 (by decide),fun h0=>by rw [e] at h0;exact absurd h0 (by decide),fun _=>by omega,fun a1 a2 a3 a4 a5 a6 a7 a8 a9=>absurd e a7⟩⟩
 ·have v:=(vld44 e).1 hv
  rw [if_neg (by rw [e];decide),if_neg (by rw [e];decide),if_neg (by rw [e];decide),if_neg (by rw [e];decide),if_neg (by rw [e];decide),if_neg (by rw [e];decide),if_neg (by rw [e];decide),if_neg (by rw [e];decide),if_pos e]
  obtain ⟨v1,v2,v3⟩:=v
  have h1:=encL_le C.se v1
  have h2:=errL_good (fun s hs=>(v1 s hs).check)
  have h3:buildS C.se=([(C.se.length:Int),0,0,0]++encL C.se,0):=by
   unfold buildS
   rw [if_neg (by omega),if_neg (by omega),h2,if_neg (by simp)]
  rw [h3]
  refine ⟨rfl,?_,⟨fun h0=>by rw [e] at h0;exact absurd h0 (by decide),fun h0=>by rw [e] at h0;exact absurd h0 (by decide),fun h0=>by rw [e] at h0;exact absurd h0 (by decide),fun h0=>by rw [e] at h0;exact absurd h0 (by decide),fun h0=>by rw [e] at h0;exact absurd h0 (by decide),fun h0=>by rw [e] at h0;exact absurd h0 (by decide),fun a1 a2 a3 a4 a5 a6 a7 a8 a9=>absurd e a8⟩⟩
  show (_++_:List Int).length≤_
  simp only [List.length_append,List.length_cons,List.length_nil]
  omega
 ·have v:=(vld45 e).1 hv
  rw [if_neg (by rw [e];decide),if_neg (by rw [e];decide),if_neg (by rw [e];decide),if_neg (by rw [e];decide),if_neg (by rw [e];decide),if_neg (by rw [e];decide),if_neg (by rw [e];decide),if_neg (by rw [e];decide),if_neg (by rw [e];decide),if_pos e]
  obtain ⟨v1,v2,v3⟩:=v
  have h1:=encL_le C.se v1
  have h2:=errL_good (fun s hs=>(v1 s hs).check)
  have h3:buildS C.se=([(C.se.length:Int),0,0,0]++encL C.se,0):=by
   unfold buildS
   rw [if_neg (by omega),if_neg (by omega),h2,if_neg (by simp)]
  rw [h3]
  refine ⟨rfl,?_,⟨fun h0=>by rw [e] at h0;exact absurd h0 (by decide),fun h0=>by rw [e] at h0;exact absurd h0 (by decide),fun h0=>by rw [e] at h0;exact absurd h0 (by decide),fun h0=>by rw [e] at h0;exact absurd h0 (by decide),fun h0=>by rw [e] at h0;exact absurd h0 (by decide),fun h0=>by rw [e] at h0;exact absurd h0 (by decide),fun a1 a2 a3 a4 a5 a6 a7 a8 a9=>absurd e a9⟩⟩
  show (_++_:List Int).length≤_
  simp only [List.length_append,List.length_cons,List.length_nil]
  omega
 ·have v:=(vld37 e).1 hv
  rw [if_neg (by rw [e];decide),if_neg (by rw [e];decide),if_neg (by rw [e];decide),if_neg (by rw [e];decide),if_neg (by rw [e];decide),if_neg (by rw [e];decide),if_neg (by rw [e];decide),if_neg (by rw [e];decide),if_neg (by rw [e];decide),if_neg (by rw [e];decide)]
  have hl:=h.da.len
  exact ⟨rfl,by show C.da.length≤_;omega,⟨fun h0=>by rw [e] at h0;exact absurd h0 (by decide),fun h0=>by rw [e] at h0;exact absurd h0 (by decide),fun h0=>by rw [e] at h0;exact absurd h0 (by decide),fun h0=>by rw [e] at h0;exact absurd h0 (by decide),fun h0=>by rw [e] at h0;exact absurd h0 (by decide),fun h0=>by rw [e] at h0;exact absurd h0 (by decide),fun _ _ _ _ _ _ _ _ _=>by omega⟩⟩
 ·have v:=(vld43 e).1 hv
  rw [if_neg (by rw [e];decide),if_neg (by rw [e];decide),if_neg (by rw [e];decide),if_neg (by rw [e];decide),if_neg (by rw [e];decide),if_neg (by rw [e];decide),if_neg (by rw [e];decide),if_neg (by rw [e];decide),if_neg (by rw [e];decide),if_neg (by rw [e];decide)]
  have hl:=h.da.len
  exact ⟨rfl,by show C.da.length≤_;omega,⟨fun h0=>by rw [e] at h0;exact absurd h0 (by decide),fun h0=>by rw [e] at h0;exact absurd h0 (by decide),fun h0=>by rw [e] at h0;exact absurd h0 (by decide),fun h0=>by rw [e] at h0;exact absurd h0 (by decide),fun h0=>by rw [e] at h0;exact absurd h0 (by decide),fun h0=>by rw [e] at h0;exact absurd h0 (by decide),fun _ _ _ _ _ _ _ _ _=>by omega⟩⟩
theorem rd_sz (t:Int) (xs:List Int) (hr : ∀ z∈xs,0≤z∧z≤255) (hl:xs.length≤1000000) (x:Pv) (C:Pc) (w:World) (h:PvRk w x C) (hd:RdAs x.t xs x C):PvSz x:=by
 have b2:0≤nthB xs 2∧nthB xs 2≤255:=rng_getD hr 2
 have b3:0≤nthB xs 3∧nthB xs 3≤255:=rng_getD hr 3
 refine ⟨fun e=>?_,fun e=>?_,fun e=>?_,fun e=>?_,fun e=>?_,fun e=>?_,fun a1 a2 a3 a4 a5 a6 a7 a8 a9=>?_⟩
 ·have:=(h.a34 e).ed.len
  rw [(hd.a34 e).2,List.length_drop] at this
  omega
 ·have h1:=(hd.a35 e).2
  rcases e with e | e
  ·have:=(h.a35 e).id.len
   rw [h1,List.length_drop] at this
   omega
  ·have:=(h.a36 e).id.len
   rw [h1,List.length_drop] at this
   omega
 ·have:=(h.a39 e).ad.len
  rw [(hd.a39 e).2,List.length_drop] at this
  omega
 ·have:=(h.a41 e).ns.len
  rw [(hd.a41 e).2.2.1,List.length_take,List.length_drop] at this
  omega
 ·have:=(h.a41 e).nd.len
  rw [(hd.a41 e).2.2.2,List.length_drop] at this
  omega
 ·have h1:=(h.a42 e).ds.len
  have h2:=congrArg List.length (hd.a42 e).2
  simp only [spisL,List.length_map,List.length_range] at h2
  omega
 ·have:=(h.aX a1 a2 a3 a4 a5 a6 a7 a8 a9).da.len
  rw [hd.aX a1 a2 a3 a4 a5 a6 a7 a8 a9] at this
  omega
end Go.Proofs.YtgpigjoonhghhaaGreat

namespace Go.Proofs.YtgpigjoonhghhaaGreat
open Go.RowKit
set_option linter.unusedVariables false
theorem parseE_X (t:Int) (ht:Other t) (xs:List Int):parseE t xs=0:=by
 obtain ⟨h33,h34,h35,h36,h39,h40,h41,h42,h44,h45⟩:=ht
 unfold parseE
 rw [if_neg h33,if_neg h34,if_neg h35,if_neg h36,if_neg h39,if_neg h40,if_neg h41,if_neg h42,if_neg h44,if_neg h45]
theorem pk_X (t:Int) (ht:Other t) (p:Option Addr) (n c:Nat) (xs:List Int) (cr:Bool) (w:World) (h:Byt w p n c xs) (hn:n≤1048576) :
  Calls Tryz.prog 50 #[.agg #[.int .i64 t,.bool cr,.slice p n c]] w (ParsedV w t (parseE t xs) (gdK t xs)):=by
 rw [parseE_X t ht]
 refine pparse_X t ht p n c xs cr _ (gdK t xs) w h (fun W hW=>(data_read p n c xs W hW (by omega)).mono ?_)
 obtain ⟨h33,h34,h35,h36,h39,h40,h41,h42,h44,h45⟩:=ht
 rintro e w' ⟨x,he,hb,hg⟩
 refine ⟨x,he,hb,fun h0=>?_⟩
 obtain h2:=hg h0
 exact ⟨{ Cn with da:=xs },fun W hW=>⟨fun e=>absurd e h33,fun e=>absurd e h34,fun e=>absurd e h35,fun e=>absurd e h36,fun e=>absurd e h39,fun e=>absurd e h41,fun e=>absurd e h42,fun e=>absurd e h44,fun e=>absurd e h45,fun _ _ _ _ _ _ _ _ _=>⟨Frs.kp h2 hW⟩⟩,
  ⟨fun e=>absurd e h33,fun e=>absurd e h34,fun e=>absurd e (by omega),fun e=>absurd e h39,fun e=>absurd e h41,fun e=>absurd e h42,fun e=>absurd e (by omega),fun _ _ _ _ _ _ _ _ _=>rfl⟩⟩
theorem pk_all (t:Int) (p:Option Addr) (n c:Nat) (xs:List Int) (cr:Bool) (w:World) (h:Byt w p n c xs) (hn:n≤1048576) :
  Calls Tryz.prog 50 #[.agg #[.int .i64 t,.bool cr,.slice p n c]] w (ParsedV w t (parseE t xs) (gdK t xs)):=by
 by_cases ht:Kind12 t
 ·exact pk_any t ht p n c xs cr w h hn
 ·exact pk_X t (by unfold Kind12 at ht;unfold Other;omega) p n c xs cr w h hn
end Go.Proofs.YtgpigjoonhghhaaGreat

namespace Go.Proofs.YtgpigjoonhghhaaGreat
open Go.RowKit
set_option linter.unusedVariables false
def twiceM:List Int→List Pv→Bool
 | _,[]=>false
 | ts,y :: l=>(decide (y.t∈ts) && !rep y.t) || twiceM (ts++[y.t]) l
def checkM (x f:Int) (l:List Pv):Int :=
 let ts:=l.map Pv.t
 if twiceM [] l then 9
 else if decide ((46:Int)∈ts) || decide ((53:Int)∈ts) then (if 1<l.length then 7 else 0)
 else if l.any tells then 0
 else if !((needL x (bits BinOp.and IntKind.i64 f 32 == 0)).all (fun k=>decide (k∈ts)) || (x == 34 && (l.all plainP && l.any (isNote 16390)))) || (decide ((44:Int)∈ts) != decide ((45:Int)∈ts)) then 8
 else 0
theorem Fnd.alloc {w:World} {b:Nat} {ts:List Int} (h:Fnd w b ts) (o:Obj):Fnd (w.alloc o) b ts:=h.below ((Below.refl _ _).alloc (Nat.le_refl _) o)
set_option maxHeartbeats 6400000 in
set_option maxRecDepth 100000 in
theorem check_any (i r nx x f m:Int) (p:Option Addr) (n c:Nat) (l:List Pv) (w:World) (h:RdG KPv DPv w p n c l) (hn:n≤100000) (hx:IntR x) :
  Calls Tryz.prog 13 #[.agg #[.int .u64 i,.int .u64 r,.int .i64 nx,.int .i64 x,.int .i64 f,.int .u32 m,.slice p n c]] w fun e w'=>e=.returned (.int .i64 (checkM x f l))∧Below w.heap.size w w':=by
 have hmm:=@run_makeMap Tryz.prog
 have HBX:=hidden ((Below.refl w.heap.size w).alloc (Nat.le_refl _) (.cells #[.int .u64 i,.int .u64 r,.int .i64 nx,.int .i64 x,.int .i64 f,.int .u32 m,.slice p n c] 32))
 have H:=hidden h
 have HFM:=hidden (Fnd.made (w.alloc (.cells #[.int .u64 i,.int .u64 r,.int .i64 nx,.int .i64 x,.int .i64 f,.int .u32 m,.slice p n c] 32)))
 have HCX:Hid (∀ j u,(#[Value.int .u64 i,.int .u64 r,.int .i64 nx,.int .i64 x,.int .i64 f,.int .u32 m,.slice p n c]:Array Value)[j]?=some u→(w.alloc (.cells #[.int .u64 i,.int .u64 r,.int .i64 nx,.int .i64 x,.int .i64 f,.int .u32 m,.slice p n c] 32)).cell? ⟨w.heap.size,j,none⟩=some u):=fun j u hj=>by
  rw [World.cell?_alloc_at _ _ _ _ rfl]
  simpa using hj
 have HXI:=hidden hx
 obtain ⟨R0,hR0⟩ : ∃ R0,twiceM [] l=R0:=⟨_,rfl⟩
 have HR0:=Is.mk hR0
 clear hR0
 go_enter Tryz.func13,Tryz.ntmps13
 go_wp2_with fail
 go_loopw [11] (fun v wr=>∃ (j:Nat),j≤n∧v=.int .i64 j∧Fnd wr (w.heap.size+1) ((l.take j).map Pv.t)∧Is (twiceM ((l.take j).map Pv.t) (l.drop j)) R0∧Below (w.heap.size+1) (w.alloc (.cells #[.int .u64 i,.int .u64 r,.int .i64 nx,.int .i64 x,.int .i64 f,.int .u32 m,.slice p n c] 32)) wr) (fun v _=>n - (intOf v).toNat)
 case atStart=>exact ⟨0,by omega,rfl,by simpa using HFM.out,⟨by simpa using HR0.eq⟩,(Below.refl _ _).alloc (by simp) _⟩
 case round =>
  obtain ⟨j,hj,rfl,hfn,hrel,hb⟩:=hrel
  have HFN:=hidden hfn
  have hb':Below (w.alloc (.cells #[.int .u64 i,.int .u64 r,.int .i64 nx,.int .i64 x,.int .i64 f,.int .u32 m,.slice p n c] 32)).heap.size (w.alloc (.cells #[.int .u64 i,.int .u64 r,.int .i64 nx,.int .i64 x,.int .i64 f,.int .u32 m,.slice p n c] 32)) wr:=by simpa using hb
  have HB:=hidden (HBX.out.trans (hb'.mono HBX.out.size))
  have HB1:=hidden hb
  have m0:=cell_below hb' _ _ (HCX.out 0 _ rfl)
  have m1:=cell_below hb' _ _ (HCX.out 1 _ rfl)
  have m2:=cell_below hb' _ _ (HCX.out 2 _ rfl)
  have m3:=cell_below hb' _ _ (HCX.out 3 _ rfl)
  have m4:=cell_below hb' _ _ (HCX.out 4 _ rfl)
  have m5:=cell_below hb' _ _ (HCX.out 5 _ rfl)
  have m6:=cell_below hb' _ _ (HCX.out 6 _ rfl)
  have hsz:w.heap.size+1≤wr.heap.size:=by have:=hb'.size;simpa using this
  clear hb hb' hfn
  by_cases hlt:j<n
  ·have hlt':(j:Int)<n:=by omega
   obtain ⟨g,y,rfl,hgx,hdr,hok,hc⟩:=(H.out.below HB.out).drop_cons hlt
   have c0:=hc 0 _ rfl
   have c1:=hc 1 _ rfl
   have c2:=hc 2 _ rfl
   have c3:=hc 3 _ rfl
   have c4:=hc 4 _ rfl
   have c5:=hc 5 _ rfl
   have c6:=hc 6 _ rfl
   have c7:=hc 7 _ rfl
   have c8:=hc 8 _ rfl
   have c9:=hc 9 _ rfl
   have c10:=hc 10 _ rfl
   have c11:=hc 11 _ rfl
   have c12:=hc 12 _ rfl
   have c13:=hc 13 _ rfl
   have c14:=hc 14 _ rfl
   have c15:=hc 15 _ rfl
   simp only [Nat.add_zero] at c0
   have hf:=hrel.eq
   rw [hdr] at hf
   unfold twiceM at hf
   have htk:(l.take (j+1)).map Pv.t=(l.take j).map Pv.t++[y.t]:=by
    rw [List.take_add_one,hgx]
    simp
   have HTK:=Is.mk htk
   have hlen:((l.take j).map Pv.t).length≤100000:=by simp;omega
   have HIY:=hidden hok.t
   have hlk:=(HFN.out.alloc (.cells #[.int .i64 y.t,.slice y.pr.p y.pr.n y.pr.c,.int .i64 y.eg,.slice y.ed.p y.ed.n y.ed.c,.int .i64 y.ik,.slice y.id.p y.id.n y.id.c,.int .i64 y.am,.slice y.ad.p y.ad.n y.ad.c,.int .i64 y.np,.slice y.ns.p y.ns.n y.ns.c,.int .i64 y.nt,.slice y.nd.p y.nd.n y.nd.c,.int .i64 y.dp,.slice y.ds.p y.ds.n y.ds.c,.slice y.se.p y.se.n y.se.c,.slice y.da.p y.da.n y.da.c] 49)).look y.t hok.t
   have HFA:=hidden (HFN.out.alloc (.cells #[.int .i64 y.t,.slice y.pr.p y.pr.n y.pr.c,.int .i64 y.eg,.slice y.ed.p y.ed.n y.ed.c,.int .i64 y.ik,.slice y.id.p y.id.n y.id.c,.int .i64 y.am,.slice y.ad.p y.ad.n y.ad.c,.int .i64 y.np,.slice y.ns.p y.ns.n y.ns.c,.int .i64 y.nt,.slice y.nd.p y.nd.n y.nd.c,.int .i64 y.dp,.slice y.ds.p y.ds.n y.ds.c,.slice y.se.p y.se.n y.se.c,.slice y.da.p y.da.n y.da.c] 49))
   have HBP:=hidden (HB1.out.alloc hsz (.cells #[.int .i64 y.t,.slice y.pr.p y.pr.n y.pr.c,.int .i64 y.eg,.slice y.ed.p y.ed.n y.ed.c,.int .i64 y.ik,.slice y.id.p y.id.n y.id.c,.int .i64 y.am,.slice y.ad.p y.ad.n y.ad.c,.int .i64 y.np,.slice y.ns.p y.ns.n y.ns.c,.int .i64 y.nt,.slice y.nd.p y.nd.n y.nd.c,.int .i64 y.dp,.slice y.ds.p y.ds.n y.ds.c,.slice y.se.p y.se.n y.se.c,.slice y.da.p y.da.n y.da.c] 49))
   have HRP:=hidden (repeats_any y.t)
   clear hok hrel hdr hgx hc htk
   generalize (l.take j).map Pv.t=ts at hf HFN HFA hlk hlen HTK
   generalize decide (y.t∈ts)=z at hf hlk
   generalize rep y.t=q at hf HRP
   cases z with
   | true =>
    cases q with
    | true =>
     have HT:Is (twiceM (ts++[y.t]) (l.drop (j+1))) R0:=⟨by simpa using hf⟩
     clear hf
     go_wp2_with (first
      | (go_at_call 28;(with_reducible refine (HRP.out _).mono ?_);rintro _ w1 ⟨rfl,rfl⟩)
      | (at_mapUpdate;go_loud (refine wpList_fnd _ rfl _ _ _ rfl (w.heap.size+1) ts HFA.out (by unfold maxLen;omega) rfl y.t rfl rfl HIY.out ?_);rintro w2 hf2 hg2;have HF2:=hidden hf2;have HB2:=hidden (HBP.out.grown hg2 (by simp;omega) (fun k hk=>by cases hk;exact Nat.le_refl _));clear hf2 hg2)
      | fail)
     go_roundw
     case rel=>exact ⟨j+1,by omega,by go_num,by rw [HTK.eq];exact HF2.out,by rw [HTK.eq];exact HT,HB2.out⟩
     case measure=>simp [intOf];omega
    | false =>
     have HT:Is R0 true:=⟨by simpa using hf.symm⟩
     clear hf
     go_wp2_with (first
      | (go_at_call 28;(with_reducible refine (HRP.out _).mono ?_);rintro _ w1 ⟨rfl,rfl⟩)
      | fail)
     go_ret
     exact ⟨by unfold checkM;rw [HR0.eq,HT.eq];rfl,HB.out.alloc HB.out.size _⟩
   | false =>
    have HT:Is (twiceM (ts++[y.t]) (l.drop (j+1))) R0:=⟨by simpa using hf⟩
    clear hf
    go_wp2_with (first
     | (at_mapUpdate;go_loud (refine wpList_fnd _ rfl _ _ _ rfl (w.heap.size+1) ts HFA.out (by unfold maxLen;omega) rfl y.t rfl rfl HIY.out ?_);rintro w2 hf2 hg2;have HF2:=hidden hf2;have HB2:=hidden (HBP.out.grown hg2 (by simp;omega) (fun k hk=>by cases hk;exact Nat.le_refl _));clear hf2 hg2)
     | fail)
    go_roundw
    case rel=>exact ⟨j+1,by omega,by go_num,by rw [HTK.eq];exact HF2.out,by rw [HTK.eq];exact HT,HB2.out⟩
    case measure=>simp [intOf];omega
  ·have hlt':¬ (j:Int)<n:=by omega
   have hll:=H.out.len
   have hd:l.drop j=[]:=List.drop_eq_nil_of_le (by omega)
   have hf:=hrel.eq
   rw [hd] at hf
   have HT:Is R0 false:=⟨hf.symm⟩
   have hFe:=HFN.out
   rw [List.take_of_length_le (show l.length≤j by omega)] at hFe
   have k46:=hFe.look 46 (by unfold IntR;omega)
   have k53:=hFe.look 53 (by unfold IntR;omega)
   have HFE:=hidden hFe
   have HFW:=hidden (fails_any i r nx x f m p n c l wr (H.out.below HB.out))
   have HCW:=hidden (fun W (hW:Below wr.heap.size wr W)=>complete_any i r nx x f m p n c l (w.heap.size+1) (l.map Pv.t) W ((H.out.below HB.out).below hW) hn HXI.out (HFE.out.below hW))
   have HLL:=Is.mk hll
   have HCM:Is (checkM x f l) (if decide ((46:Int)∈l.map Pv.t) || decide ((53:Int)∈l.map Pv.t) then (if 1<l.length then 7 else 0) else if l.any tells then 0
     else if !((needL x (bits BinOp.and IntKind.i64 f 32 == 0)).all (fun k=>decide (k∈l.map Pv.t)) || (x == 34 && (l.all plainP && l.any (isNote 16390)))) || (decide ((44:Int)∈l.map Pv.t) != decide ((45:Int)∈l.map Pv.t)) then 8 else 0):=⟨by unfold checkM;rw [HR0.eq,HT.eq];rfl⟩
   generalize ((needL x (bits BinOp.and IntKind.i64 f 32 == 0)).all (fun k=>decide (k∈l.map Pv.t)) || (x == 34 && (l.all plainP && l.any (isNote 16390))))=cm at HCM HCW
   generalize l.any tells=fl at HCM HFW
   generalize hd46:decide ((46:Int)∈l.map Pv.t)=d46 at HCM k46
   generalize hd53:decide ((53:Int)∈l.map Pv.t)=d53 at HCM k53
   clear hf hd hrel hFe hd46 hd53
   by_cases h1:1<n
   ·have h1':(1:Int)<(n:Int):=by omega
    rw [if_pos (show 1<l.length by omega)] at HCM
    cases d46 with
    | true =>
     go_wp2
     go_ret
     exact ⟨by rw [HCM.eq];rfl,HB.out⟩
    | false =>
     cases d53 with
     | true =>
      go_wp2
      go_ret
      exact ⟨by rw [HCM.eq];rfl,HB.out⟩
     | false =>
      cases fl with
      | true =>
       go_wp2_with (first
        | (go_at_call 29;(with_reducible refine (HFW.out).mono ?_);rintro _ wf ⟨rfl,hbf⟩;have HBF:=hidden hbf;have HBG:=hidden (HB.out.trans (hbf.mono HB.out.size));have HFF:=hidden (HFE.out.below hbf);have e0:=cell_below hbf _ _ m0;have e1:=cell_below hbf _ _ m1;have e2:=cell_below hbf _ _ m2;have e3:=cell_below hbf _ _ m3;have e4:=cell_below hbf _ _ m4;have e5:=cell_below hbf _ _ m5;have e6:=cell_below hbf _ _ m6;clear hbf)
        | fail)
       go_ret
       exact ⟨by rw [HCM.eq];rfl,HBG.out⟩
      | false =>
       generalize hd44:decide ((44:Int)∈l.map Pv.t)=d44 at HCM
       generalize hd45:decide ((45:Int)∈l.map Pv.t)=d45 at HCM
       cases cm with
       | false =>
        go_wp2_with (first
         | (go_at_call 29;(with_reducible refine (HFW.out).mono ?_);rintro _ wf ⟨rfl,hbf⟩;have HBF:=hidden hbf;have HBG:=hidden (HB.out.trans (hbf.mono HB.out.size));have HFF:=hidden (HFE.out.below hbf);have e0:=cell_below hbf _ _ m0;have e1:=cell_below hbf _ _ m1;have e2:=cell_below hbf _ _ m2;have e3:=cell_below hbf _ _ m3;have e4:=cell_below hbf _ _ m4;have e5:=cell_below hbf _ _ m5;have e6:=cell_below hbf _ _ m6;clear hbf)
         | (go_at_call 30;(with_reducible refine (HCW.out _ HBF.out).mono ?_);rintro _ wk ⟨rfl,hbk⟩;have HBK:=hidden (HBG.out.trans (hbk.mono HBG.out.size));have k44:=(HFF.out.below hbk).look 44 (by unfold IntR;omega);have k45:=(HFF.out.below hbk).look 45 (by unfold IntR;omega);rw [hd44] at k44;rw [hd45] at k45;clear hbk)
         | fail)
        go_ret
        exact ⟨by rw [HCM.eq];rfl,HBK.out⟩
       | true =>
        cases d44<;>cases d45
        all_goals
         go_wp2_with (first
          | (go_at_call 29;(with_reducible refine (HFW.out).mono ?_);rintro _ wf ⟨rfl,hbf⟩;have HBF:=hidden hbf;have HBG:=hidden (HB.out.trans (hbf.mono HB.out.size));have HFF:=hidden (HFE.out.below hbf);have e0:=cell_below hbf _ _ m0;have e1:=cell_below hbf _ _ m1;have e2:=cell_below hbf _ _ m2;have e3:=cell_below hbf _ _ m3;have e4:=cell_below hbf _ _ m4;have e5:=cell_below hbf _ _ m5;have e6:=cell_below hbf _ _ m6;clear hbf)
          | (go_at_call 30;(with_reducible refine (HCW.out _ HBF.out).mono ?_);rintro _ wk ⟨rfl,hbk⟩;have HBK:=hidden (HBG.out.trans (hbk.mono HBG.out.size));have k44:=(HFF.out.below hbk).look 44 (by unfold IntR;omega);have k45:=(HFF.out.below hbk).look 45 (by unfold IntR;omega);rw [hd44] at k44;rw [hd45] at k45;clear hbk)
          | fail)
         go_ret
         exact ⟨by rw [HCM.eq];rfl,HBK.out⟩
   ·have h1':¬ (1:Int)<(n:Int):=by omega
    rw [if_neg (show ¬ 1<l.length by omega)] at HCM
    cases d46 with
    | true =>
     go_wp2
     go_ret
     exact ⟨by rw [HCM.eq];rfl,HB.out⟩
    | false =>
     cases d53 with
     | true =>
      go_wp2
      go_ret
      exact ⟨by rw [HCM.eq];rfl,HB.out⟩
     | false =>
      cases fl with
      | true =>
       go_wp2_with (first
        | (go_at_call 29;(with_reducible refine (HFW.out).mono ?_);rintro _ wf ⟨rfl,hbf⟩;have HBF:=hidden hbf;have HBG:=hidden (HB.out.trans (hbf.mono HB.out.size));have HFF:=hidden (HFE.out.below hbf);have e0:=cell_below hbf _ _ m0;have e1:=cell_below hbf _ _ m1;have e2:=cell_below hbf _ _ m2;have e3:=cell_below hbf _ _ m3;have e4:=cell_below hbf _ _ m4;have e5:=cell_below hbf _ _ m5;have e6:=cell_below hbf _ _ m6;clear hbf)
        | fail)
       go_ret
       exact ⟨by rw [HCM.eq];rfl,HBG.out⟩
      | false =>
       generalize hd44:decide ((44:Int)∈l.map Pv.t)=d44 at HCM
       generalize hd45:decide ((45:Int)∈l.map Pv.t)=d45 at HCM
       cases cm with
       | false =>
        go_wp2_with (first
         | (go_at_call 29;(with_reducible refine (HFW.out).mono ?_);rintro _ wf ⟨rfl,hbf⟩;have HBF:=hidden hbf;have HBG:=hidden (HB.out.trans (hbf.mono HB.out.size));have HFF:=hidden (HFE.out.below hbf);have e0:=cell_below hbf _ _ m0;have e1:=cell_below hbf _ _ m1;have e2:=cell_below hbf _ _ m2;have e3:=cell_below hbf _ _ m3;have e4:=cell_below hbf _ _ m4;have e5:=cell_below hbf _ _ m5;have e6:=cell_below hbf _ _ m6;clear hbf)
         | (go_at_call 30;(with_reducible refine (HCW.out _ HBF.out).mono ?_);rintro _ wk ⟨rfl,hbk⟩;have HBK:=hidden (HBG.out.trans (hbk.mono HBG.out.size));have k44:=(HFF.out.below hbk).look 44 (by unfold IntR;omega);have k45:=(HFF.out.below hbk).look 45 (by unfold IntR;omega);rw [hd44] at k44;rw [hd45] at k45;clear hbk)
         | fail)
        go_ret
        exact ⟨by rw [HCM.eq];rfl,HBK.out⟩
       | true =>
        cases d44<;>cases d45
        all_goals
         go_wp2_with (first
          | (go_at_call 29;(with_reducible refine (HFW.out).mono ?_);rintro _ wf ⟨rfl,hbf⟩;have HBF:=hidden hbf;have HBG:=hidden (HB.out.trans (hbf.mono HB.out.size));have HFF:=hidden (HFE.out.below hbf);have e0:=cell_below hbf _ _ m0;have e1:=cell_below hbf _ _ m1;have e2:=cell_below hbf _ _ m2;have e3:=cell_below hbf _ _ m3;have e4:=cell_below hbf _ _ m4;have e5:=cell_below hbf _ _ m5;have e6:=cell_below hbf _ _ m6;clear hbf)
          | (go_at_call 30;(with_reducible refine (HCW.out _ HBF.out).mono ?_);rintro _ wk ⟨rfl,hbk⟩;have HBK:=hidden (HBG.out.trans (hbk.mono HBG.out.size));have k44:=(HFF.out.below hbk).look 44 (by unfold IntR;omega);have k45:=(HFF.out.below hbk).look 45 (by unfold IntR;omega);rw [hd44] at k44;rw [hd45] at k45;clear hbk)
          | fail)
         go_ret
         exact ⟨by rw [HCM.eq];rfl,HBK.out⟩
end Go.Proofs.YtgpigjoonhghhaaGreat

namespace Go.Proofs.YtgpigjoonhghhaaGreat
open Go.RowKit
set_option linter.unusedVariables false
def Rp0 (e:Int):Prop:=e=0∨Rpl e
instance (e:Int):Decidable (Rp0 e):=by unfold Rp0;infer_instance
theorem rp_trs (l:List Tr) : ∀ s,Rp0 (errTrs s l):=by
 induction l with
 | nil=>exact fun s=>Or.inl rfl
 | cons x l ih =>
  intro s
  unfold errTrs
  repeat' split
  all_goals first | decide | exact ih _
theorem rp_pr (p:Pr) (n:Int):Rp0 (errPr p n):=by
 unfold errPr
 repeat' split
 all_goals first | decide | exact rp_trs _ _
theorem rp_prs (l:List Pr) : ∀ n,Rp0 (errPrs n l):=by
 induction l with
 | nil=>exact fun n=>Or.inl rfl
 | cons x l ih =>
  intro n
  unfold errPrs
  split
  ·exact rp_pr _ _
  ·exact ih _
theorem rp_checkP (l:List Pr):Rp0 (checkP l):=by
 unfold checkP
 repeat' split
 all_goals first | decide | exact rp_prs _ _
theorem rp_parseP (xs:List Int):Rp0 (parseP xs).2:=by
 unfold parseP
 split
 ·exact (by decide:Rp0 1)
 ·split
  ·exact (by decide:Rp0 4)
  ·split
   ·exact rp_checkP _
   ·exact Or.inl rfl
theorem rp_checkS (s:Sl):Rp0 (checkS s):=by
 unfold checkS
 repeat' split
 all_goals decide
theorem rp_errL (l:List Sl):Rp0 (errL l):=by
 induction l with
 | nil=>exact Or.inl rfl
 | cons x l ih =>
  unfold errL
  split
  ·exact rp_checkS _
  ·exact ih
theorem rp_parseS (xs:List Int):Rp0 (parseS xs).2:=by
 unfold parseS
 split
 ·exact (by decide:Rp0 1)
 ·split
  ·exact (by decide:Rp0 8)
  ·split
   ·exact (by decide:Rp0 10)
   ·split
    ·exact (by decide:Rp0 4)
    ·split
     ·exact rp_errL _
     ·exact Or.inl rfl
theorem rp_notify (a b c:Int):Rp0 (notifyE a b c):=by
 unfold notifyE
 repeat' split
 all_goals decide
theorem rp_delete (a b c:Int):Rp0 (deleteE a b c):=by
 unfold deleteE
 repeat' split
 all_goals decide
theorem rp_parseE (t:Int) (xs:List Int):Rp0 (parseE t xs):=by
 unfold parseE
 repeat' split
 ·exact rp_parseP _
 ·unfold exchangeE exchE;repeat' split
  all_goals decide
 ·unfold identE idE;repeat' split
  all_goals decide
 ·unfold identE idE;repeat' split
  all_goals decide
 ·unfold authenE authE;repeat' split
  all_goals decide
 ·unfold nonceE;repeat' split
  all_goals decide
 ·unfold noteE;repeat' split
  all_goals first | decide | exact rp_notify _ _ _
 ·unfold delE spisX;repeat' split
  all_goals first | decide | exact rp_delete _ _ _
 ·exact rp_parseS _
 ·exact rp_parseS _
 ·decide
theorem rp_checkM (x f:Int) (l:List Pv):Rp0 (checkM x f l):=by
 unfold checkM
 simp only
 repeat' split
 all_goals decide
def RawOk (N:Nat) (r:Raw):Prop:=0≤r.k∧r.k≤255∧r.b.length≤N∧∀ z∈r.b,0≤z∧z≤255
theorem getD_rng (xs:List Int) (h : ∀ z∈xs,0≤z∧z≤255) (j:Nat):0≤xs.getD j 0∧xs.getD j 0≤255:=by
 rw [List.getD_eq_getElem?_getD]
 by_cases hj:j<xs.length
 ·rw [List.getElem?_eq_getElem hj]
  exact h _ (List.getElem_mem _)
 ·rw [List.getElem?_eq_none (by omega)]
  exact ⟨by decide,by decide⟩
theorem headC_ok (N:Nat) (k:Int) (xs:List Int) (hk:0≤k∧k≤255) (h : ∀ z∈xs,0≤z∧z≤255) (hN:xs.length≤N):RawOk N (headC k xs) :=
 ⟨hk.1,hk.2,by simp only [headC,List.length_take,List.length_drop];omega,fun z hz=>h z (List.mem_of_mem_drop (List.mem_of_mem_take hz))⟩
theorem parseC_ok (N:Nat) : ∀ (left:Nat) (k:Int) (xs:List Int),0≤k∧k≤255→(∀ z∈xs,0≤z∧z≤255)→xs.length≤N→∀ r∈(parseC left k xs).l,RawOk N r
 | 0,k,xs,hk,h,hN=>by
  by_cases h0:k=0
  ·subst h0
   rw [parseC_end]
   split<;>(intro r hr;cases hr)
  ·rw [parseC_many k xs h0]
   intro r hr;cases hr
 | left+1,k,xs,hk,h,hN=>by
  by_cases h0:k=0
  ·subst h0
   rw [parseC_end]
   split<;>(intro r hr;cases hr)
  ·rw [parseC_more left k xs h0]
   split
   ·intro r hr;cases hr
   ·split
    ·intro r hr;cases hr
    ·split
     ·split
      ·intro r hr;cases hr
      ·intro r hr
       rw [List.mem_singleton.1 hr]
       exact headC_ok N k xs hk h hN
     ·intro r hr
      unfold preC at hr
      split at hr
      ·cases hr
      ·rcases List.mem_append.1 hr with hr | hr
       ·rw [List.mem_singleton.1 hr]
        exact headC_ok N k xs hk h hN
       ·exact parseC_ok N left _ _ (getD_rng xs h 0) (fun z hz=>h z (List.mem_of_mem_drop hz)) (by rw [List.length_drop];omega) r hr
theorem parseTop_ok (N:Nat) (k:Int) (xs:List Int) (h : ∀ z∈xs,0≤z∧z≤255) (hN:xs.length≤N) : ∀ r∈(parseTop k xs).l,RawOk N r:=by
 unfold parseTop
 split
 ·intro r hr;cases hr
 ·exact parseC_ok N _ _ _ (by omega) h hN
end Go.Proofs.YtgpigjoonhghhaaGreat

namespace Go.Proofs.YtgpigjoonhghhaaGreat
open Go.RowKit
set_option linter.unusedVariables false
set_option linter.unusedSimpArgs false
set_option maxHeartbeats 1600000 in
set_option maxRecDepth 100000 in
theorem vld_small (x:Pv) (C:Pc) (w:World) (h:PvRd w x C) (hn:NumOk x) (hv:Vld x C) (h2p:C.pr.length≤2) (hk:Kind12 x.t):(buildB x C).2=0∧(buildB x C).1.length≤1000∧PvSz x:=by
 obtain ⟨n1,n2,n3,n4⟩:=hn
 have hdl:=h.ds.len
 unfold buildB
 rcases hk with e | e | e | e | e | e | e | e | e | e | e | e
 ·have v:=(vld33 e).1 hv
  rw [if_pos e]
  have h1:=encPs_le (C.pr.map PrP.pr) (checkP_ok v).2.2
  have h2:(C.pr.map PrP.pr).length≤2:=by rw [List.length_map];exact h2p
  refine ⟨by unfold buildP;rw [v,if_neg (by simp)],?_,⟨fun h0=>by rw [e] at h0;exact absurd h0 (by decide),fun h0=>by rw [e] at h0;exact absurd h0 (by decide),fun h0=>by rw [e] at h0;exact absurd h0 (by decide),fun h0=>by rw [e] at h0;exact absurd h0 (by decide),fun h0=>by rw [e] at h0;exact absurd h0 (by decide),fun h0=>by rw [e] at h0;exact absurd h0 (by decide),fun a1 a2 a3 a4 a5 a6 a7 a8 a9=>absurd e a1⟩⟩
  unfold buildP
  rw [v,if_neg (by simp)]
  show (encPs _).length≤_
  omega
 ·have v:=(vld34 e).1 hv
  rw [if_neg (by rw [e];decide),if_pos e]
  have hl:=h.ed.len
  refine ⟨by show exchE _ _=0;unfold exchE;rw [if_neg (by omega),if_neg (by omega)],?_,⟨fun _=>by omega,fun h0=>by rw [e] at h0;exact absurd h0 (by decide),fun h0=>by rw [e] at h0;exact absurd h0 (by decide),fun h0=>by rw [e] at h0;exact absurd h0 (by decide),fun h0=>by rw [e] at h0;exact absurd h0 (by decide),fun h0=>by rw [e] at h0;exact absurd h0 (by decide),fun a1 a2 a3 a4 a5 a6 a7 a8 a9=>absurd e a2⟩⟩
  show (exchL _ _).length≤_
  simp [exchL]
  omega
 ·have v:=(vld35 e).1 hv
  rw [if_neg (by rw [e];decide),if_neg (by rw [e];decide),if_pos e]
  have hl:=h.id.len
  refine ⟨?_,?_,⟨fun h0=>by rw [e] at h0;exact absurd h0 (by decide),fun _=>by omega,fun h0=>by rw [e] at h0;exact absurd h0 (by decide),fun h0=>by rw [e] at h0;exact absurd h0 (by decide),fun h0=>by rw [e] at h0;exact absurd h0 (by decide),fun h0=>by rw [e] at h0;exact absurd h0 (by decide),fun a1 a2 a3 a4 a5 a6 a7 a8 a9=>absurd e a3⟩⟩
  ·show idE _ _=0
   obtain ⟨v1,v2,v3⟩:=v
   unfold idE
   rw [if_neg (by omega),if_neg (by omega),if_pos v1,if_neg (by omega)]
  ·show (headL _ _).length≤_
   simp [headL]
   omega
 ·have v:=(vld36 e).1 hv
  rw [if_neg (by rw [e];decide),if_neg (by rw [e];decide),if_neg (by rw [e];decide),if_pos e]
  have hl:=h.id.len
  refine ⟨?_,?_,⟨fun h0=>by rw [e] at h0;exact absurd h0 (by decide),fun _=>by omega,fun h0=>by rw [e] at h0;exact absurd h0 (by decide),fun h0=>by rw [e] at h0;exact absurd h0 (by decide),fun h0=>by rw [e] at h0;exact absurd h0 (by decide),fun h0=>by rw [e] at h0;exact absurd h0 (by decide),fun a1 a2 a3 a4 a5 a6 a7 a8 a9=>absurd e a4⟩⟩
  ·show idE _ _=0
   obtain ⟨v1,v2,v3⟩:=v
   unfold idE
   rw [if_neg (by omega),if_neg (by omega),if_pos v1,if_neg (by omega)]
  ·show (headL _ _).length≤_
   simp [headL]
   omega
 ·have v:=(vld39 e).1 hv
  rw [if_neg (by rw [e];decide),if_neg (by rw [e];decide),if_neg (by rw [e];decide),if_neg (by rw [e];decide),if_pos e]
  have hl:=h.ad.len
  refine ⟨?_,?_,⟨fun h0=>by rw [e] at h0;exact absurd h0 (by decide),fun h0=>by rw [e] at h0;exact absurd h0 (by decide),fun _=>by omega,fun h0=>by rw [e] at h0;exact absurd h0 (by decide),fun h0=>by rw [e] at h0;exact absurd h0 (by decide),fun h0=>by rw [e] at h0;exact absurd h0 (by decide),fun a1 a2 a3 a4 a5 a6 a7 a8 a9=>absurd e a5⟩⟩
  ·show authE _ _=0
   unfold authE
   rw [if_neg (by omega),if_neg (by omega)]
  ·show (headL _ _).length≤_
   simp [headL]
   omega
 ·have v:=(vld40 e).1 hv
  rw [if_neg (by rw [e];decide),if_neg (by rw [e];decide),if_neg (by rw [e];decide),if_neg (by rw [e];decide),if_neg (by rw [e];decide),if_pos e]
  have hl:=h.da.len
  refine ⟨?_,?_,⟨fun h0=>by rw [e] at h0;exact absurd h0 (by decide),fun h0=>by rw [e] at h0;exact absurd h0 (by decide),fun h0=>by rw [e] at h0;exact absurd h0 (by decide),fun h0=>by rw [e] at h0;exact absurd h0 (by decide),fun h0=>by rw [e] at h0;exact absurd h0 (by decide),fun h0=>by rw [e] at h0;exact absurd h0 (by decide),fun _ _ _ _ _ _ _ _ _=>by omega⟩⟩
  ·show nonceE _=0
   unfold nonceE
   rw [if_neg (by omega)]
  ·show C.da.length≤_
   omega
 ·have v:=(vld41 e).1 hv
  rw [if_neg (by rw [e];decide),if_neg (by rw [e];decide),if_neg (by rw [e];decide),if_neg (by rw [e];decide),if_neg (by rw [e];decide),if_neg (by rw [e];decide),if_pos e]
  have hl:=h.ns.len
  have hl2:=h.nd.len
  refine ⟨?_,?_,⟨fun h0=>by rw [e] at h0;exact absurd h0 (by decide),fun h0=>by rw [e] at h0;exact absurd h0 (by decide),fun h0=>by rw [e] at h0;exact absurd h0 (by decide),fun _=>by omega,fun _=>by omega,fun h0=>by rw [e] at h0;exact absurd h0 (by decide),fun a1 a2 a3 a4 a5 a6 a7 a8 a9=>absurd e a6⟩⟩
  ·show notifyE _ _ _=0
   unfold notifyE
   rw [if_neg (by omega),if_pos]
   rcases v with ⟨v1,v2⟩ | ⟨v1,v2⟩
   ·rw [v1,v2];rfl
   ·rw [v1,v2];rfl
  ·show (noteL _ _ _ _).length≤_
   simp [noteL]
   omega
 ·have v:=(vld42 e).1 hv
  rw [if_neg (by rw [e];decide),if_neg (by rw [e];decide),if_neg (by rw [e];decide),if_neg (by rw [e];decide),if_neg (by rw [e];decide),if_neg (by rw [e];decide),if_neg (by rw [e];decide),if_pos e]
  rcases v with ⟨v1,v2⟩ | ⟨v1,v2 | v2⟩
  ·have hd0:x.ds.n=0:=by rw [←hdl,v2];rfl
   rw [v1,v2]
   exact ⟨by decide,by decide,⟨fun h0=>by rw [e] at h0;exact absurd h0 (by decide),fun h0=>by rw [e] at h0;exact absurd h0 (by decide),fun h0=>by rw [e] at h0;exact absurd h0 (by decide),fun h0=>by rw [e] at h0;exact absurd h0 (by decide),fun h0=>by rw [e] at h0;exact absurd h0 (by decide),fun _=>by omega,fun a1 a2 a3 a4 a5 a6 a7 a8 a9=>absurd e a7⟩⟩
  ·have hd0:x.ds.n=1:=by rw [←hdl];have:=congrArg List.length v2;simpa using this
   rw [v1,v2]
   exact ⟨by decide,by decide,⟨fun h0=>by rw [e] at h0;exact absurd h0 (by decide),fun h0=>by rw [e] at h0;exact absurd h0 (by decide),fun h0=>by rw [e] at h0;exact absurd h0 (by decide),fun h0=>by rw [e] at h0;exact absurd h0 (by decide),fun h0=>by rw [e] at h0;exact absurd h0 (by decide),fun _=>by omega,fun a1 a2 a3 a4 a5 a6 a7 a8 a9=>absurd e a7⟩⟩
  ·have hd0:x.ds.n=2:=by rw [←hdl];have:=congrArg List.length v2;simpa using this
   rw [v1,v2]
   exact ⟨by decide,by decide,⟨fun h0=>by rw [e] at h0;exact absurd h0 (by decide),fun h0=>by rw [e] at h0;exact absurd h0 (by decide),fun h0=>by rw [e] at h0;exact absurd h0 (by decide),fun h0=>by rw [e] at h0;exact absurd h0 (by decide),fun h0=>by rw [e] at h0;exact absurd h0 (by decide),fun _=>by omega,fun a1 a2 a3 a4 a5 a6 a7 a8 a9=>absurd e a7⟩⟩
 ·have v:=(vld44 e).1 hv
  rw [if_neg (by rw [e];decide),if_neg (by rw [e];decide),if_neg (by rw [e];decide),if_neg (by rw [e];decide),if_neg (by rw [e];decide),if_neg (by rw [e];decide),if_neg (by rw [e];decide),if_neg (by rw [e];decide),if_pos e]
  obtain ⟨v1,v2,v3⟩:=v
  have h1:=encL_le C.se v1
  have h2:=errL_good (fun s hs=>(v1 s hs).check)
  have h3:buildS C.se=([(C.se.length:Int),0,0,0]++encL C.se,0):=by
   unfold buildS
   rw [if_neg (by omega),if_neg (by omega),h2,if_neg (by simp)]
  rw [h3]
  refine ⟨rfl,?_,⟨fun h0=>by rw [e] at h0;exact absurd h0 (by decide),fun h0=>by rw [e] at h0;exact absurd h0 (by decide),fun h0=>by rw [e] at h0;exact absurd h0 (by decide),fun h0=>by rw [e] at h0;exact absurd h0 (by decide),fun h0=>by rw [e] at h0;exact absurd h0 (by decide),fun h0=>by rw [e] at h0;exact absurd h0 (by decide),fun a1 a2 a3 a4 a5 a6 a7 a8 a9=>absurd e a8⟩⟩
  show (_++_:List Int).length≤_
  simp only [List.length_append,List.length_cons,List.length_nil]
  omega
 ·have v:=(vld45 e).1 hv
  rw [if_neg (by rw [e];decide),if_neg (by rw [e];decide),if_neg (by rw [e];decide),if_neg (by rw [e];decide),if_neg (by rw [e];decide),if_neg (by rw [e];decide),if_neg (by rw [e];decide),if_neg (by rw [e];decide),if_neg (by rw [e];decide),if_pos e]
  obtain ⟨v1,v2,v3⟩:=v
  have h1:=encL_le C.se v1
  have h2:=errL_good (fun s hs=>(v1 s hs).check)
  have h3:buildS C.se=([(C.se.length:Int),0,0,0]++encL C.se,0):=by
   unfold buildS
   rw [if_neg (by omega),if_neg (by omega),h2,if_neg (by simp)]
  rw [h3]
  refine ⟨rfl,?_,⟨fun h0=>by rw [e] at h0;exact absurd h0 (by decide),fun h0=>by rw [e] at h0;exact absurd h0 (by decide),fun h0=>by rw [e] at h0;exact absurd h0 (by decide),fun h0=>by rw [e] at h0;exact absurd h0 (by decide),fun h0=>by rw [e] at h0;exact absurd h0 (by decide),fun h0=>by rw [e] at h0;exact absurd h0 (by decide),fun a1 a2 a3 a4 a5 a6 a7 a8 a9=>absurd e a9⟩⟩
  show (_++_:List Int).length≤_
  simp only [List.length_append,List.length_cons,List.length_nil]
  omega
 ·have v:=(vld37 e).1 hv
  rw [if_neg (by rw [e];decide),if_neg (by rw [e];decide),if_neg (by rw [e];decide),if_neg (by rw [e];decide),if_neg (by rw [e];decide),if_neg (by rw [e];decide),if_neg (by rw [e];decide),if_neg (by rw [e];decide),if_neg (by rw [e];decide),if_neg (by rw [e];decide)]
  have hl:=h.da.len
  exact ⟨rfl,by show C.da.length≤_;omega,⟨fun h0=>by rw [e] at h0;exact absurd h0 (by decide),fun h0=>by rw [e] at h0;exact absurd h0 (by decide),fun h0=>by rw [e] at h0;exact absurd h0 (by decide),fun h0=>by rw [e] at h0;exact absurd h0 (by decide),fun h0=>by rw [e] at h0;exact absurd h0 (by decide),fun h0=>by rw [e] at h0;exact absurd h0 (by decide),fun _ _ _ _ _ _ _ _ _=>by omega⟩⟩
 ·have v:=(vld43 e).1 hv
  rw [if_neg (by rw [e];decide),if_neg (by rw [e];decide),if_neg (by rw [e];decide),if_neg (by rw [e];decide),if_neg (by rw [e];decide),if_neg (by rw [e];decide),if_neg (by rw [e];decide),if_neg (by rw [e];decide),if_neg (by rw [e];decide),if_neg (by rw [e];decide)]
  have hl:=h.da.len
  exact ⟨rfl,by show C.da.length≤_;omega,⟨fun h0=>by rw [e] at h0;exact absurd h0 (by decide),fun h0=>by rw [e] at h0;exact absurd h0 (by decide),fun h0=>by rw [e] at h0;exact absurd h0 (by decide),fun h0=>by rw [e] at h0;exact absurd h0 (by decide),fun h0=>by rw [e] at h0;exact absurd h0 (by decide),fun h0=>by rw [e] at h0;exact absurd h0 (by decide),fun _ _ _ _ _ _ _ _ _=>by omega⟩⟩
abbrev PZ:=Pv × Pc
def rawZ (z:PZ):Raw:=⟨z.1.t,false,(buildB z.1 z.2).1⟩
structure MadeZ (z:PZ):Prop where
 t:33≤z.1.t∧z.1.t≤45∧z.1.t≠38
 ok:(buildB z.1 z.2).2=0
 len:(buildB z.1 z.2).1.length≤1000
 sz:PvSz z.1
theorem MadeZ.k12 {z:PZ} (h:MadeZ z):Kind12 z.1.t:=by have:=h.t;unfold Kind12;omega
theorem MadeZ.rawE {z:PZ} (h:MadeZ z):rawE z.1.t (buildB z.1 z.2).1 (buildB z.1 z.2).2=0:=by
 have:=h.t
 have:=h.len
 have:=h.ok
 unfold Go.Proofs.YtgpigjoonhghhaaGreat.rawE
 rw [if_neg (by omega),if_neg (by omega),if_neg (by omega)]
def keyM (y:Pv):Int × Int:=(y.t,if y.t=41 then y.nt else 0)
theorem keyM_t {a b:Pv} (h:keyM a=keyM b):a.t=b.t:=congrArg Prod.fst h
theorem keyM_nt {a b:Pv} (h:keyM a=keyM b) (h1:a.t=41):a.nt=b.nt:=by
 have h2:=congrArg Prod.snd h
 have h3:=keyM_t h
 simp only [keyM] at h2
 rwa [if_pos h1,if_pos (by omega)] at h2
theorem tells_key {a b:Pv} (h:keyM a=keyM b):tells a=tells b:=by
 unfold tells
 have h1:=keyM_t h
 by_cases e:a.t=41
 ·rw [keyM_nt h e,h1]
 ·have e2:¬ b.t=41:=by omega
  rw [show (a.t == 41)=false from beq_false_of_ne e,show (b.t == 41)=false from beq_false_of_ne e2]
  rfl
theorem note_key {a b:Pv} (h:keyM a=keyM b) (k:Int):isNote k a=isNote k b:=by
 unfold isNote
 have h1:=keyM_t h
 by_cases e:a.t=41
 ·rw [keyM_nt h e,h1]
 ·have e2:¬ b.t=41:=by omega
  rw [show (a.t == 41)=false from beq_false_of_ne e,show (b.t == 41)=false from beq_false_of_ne e2]
  rfl
theorem plain_key {a b:Pv} (h:keyM a=keyM b):plainP a=plainP b:=by
 unfold plainP
 rw [keyM_t h]
theorem any_key {f:Pv→Bool} (hf : ∀ a b,keyM a=keyM b→f a=f b) : ∀ {l r:List Pv},l.map keyM=r.map keyM→l.any f=r.any f
 | [],[],_=>rfl
 | [],b :: r,h=>by simp at h
 | a :: l,[],h=>by simp at h
 | a :: l,b :: r,h=>by
  simp only [List.map_cons,List.cons.injEq] at h
  rw [List.any_cons,List.any_cons,hf a b h.1,any_key hf h.2]
theorem all_key {f:Pv→Bool} (hf : ∀ a b,keyM a=keyM b→f a=f b) : ∀ {l r:List Pv},l.map keyM=r.map keyM→l.all f=r.all f
 | [],[],_=>rfl
 | [],b :: r,h=>by simp at h
 | a :: l,[],h=>by simp at h
 | a :: l,b :: r,h=>by
  simp only [List.map_cons,List.cons.injEq] at h
  rw [List.all_cons,List.all_cons,hf a b h.1,all_key hf h.2]
theorem t_key : ∀ {l r:List Pv},l.map keyM=r.map keyM→l.map Pv.t=r.map Pv.t
 | [],[],_=>rfl
 | [],b :: r,h=>by simp at h
 | a :: l,[],h=>by simp at h
 | a :: l,b :: r,h=>by
  simp only [List.map_cons,List.cons.injEq] at h ⊢
  exact ⟨keyM_t h.1,t_key h.2⟩
theorem twice_key : ∀ {l r:List Pv} (ts:List Int),l.map keyM=r.map keyM→twiceM ts l=twiceM ts r
 | [],[],_,_=>rfl
 | [],b :: r,_,h=>by simp at h
 | a :: l,[],_,h=>by simp at h
 | a :: l,b :: r,ts,h=>by
  simp only [List.map_cons,List.cons.injEq] at h
  unfold twiceM
  rw [keyM_t h.1,twice_key _ h.2]
theorem check_key {l r:List Pv} (h:l.map keyM=r.map keyM) (x f:Int):checkM x f l=checkM x f r:=by
 have hl:l.length=r.length:=by have:=congrArg List.length h;simpa using this
 unfold checkM
 simp only
 rw [twice_key [] h,t_key h,hl,any_key (fun a b e=>tells_key e) h,all_key (fun a b e=>plain_key e) h,any_key (fun a b e=>note_key e 16390) h]
theorem same_key {x y:Pv} {C D:Pc} (h:sameV x C y D=true):keyM x=keyM y:=by
 unfold sameV at h
 by_cases ht:x.t=y.t
 ·unfold keyM
  rw [←ht]
  by_cases e:x.t=41
  ·rw [if_neg (by simp [ht]),if_neg (by omega),if_neg (by omega),if_neg (by omega),if_neg (by omega),if_pos e] at h
   simp only [Bool.and_eq_true,decide_eq_true_eq] at h
   rw [h.1.1.2]
  ·rw [if_neg e,if_neg e]
 ·rw [if_pos ht] at h
  cases h
def errR:List Raw→Int
 | []=>0
 | r :: l=>if knownK r.k=true then (if parseE r.k r.b≠0 then parseE r.k r.b else errR l) else if r.c=true then 6 else errR l
def knownR (l:List Raw):List Raw:=l.filter (fun r=>knownK r.k)
theorem knownZ (Z:List PZ) (h : ∀ z∈Z,MadeZ z):knownR (Z.map rawZ)=Z.map rawZ:=by
 unfold knownR
 rw [List.filter_eq_self]
 intro r hr
 obtain ⟨z,hz,rfl⟩:=List.mem_map.1 hr
 have:=(h z hz).t
 show knownK z.1.t=true
 unfold knownK
 rw [decide_eq_true_eq]
 omega
theorem errR_Z (Z:List PZ) (h : ∀ z∈Z,MadeZ z) (hp : ∀ z∈Z,parseE z.1.t (buildB z.1 z.2).1=0):errR (Z.map rawZ)=0:=by
 induction Z with
 | nil=>rfl
 | cons z Z ih =>
  have h1:=(h z (List.mem_cons_self ..)).t
  have hk:knownK z.1.t=true:=by unfold knownK;rw [decide_eq_true_eq];omega
  have h2:=hp z (List.mem_cons_self ..)
  show errR (rawZ z :: Z.map rawZ)=0
  unfold errR
  rw [if_pos (show knownK (rawZ z).k=true from hk),if_neg (show ¬ parseE (rawZ z).k (rawZ z).b≠0 by rw [show parseE (rawZ z).k (rawZ z).b=0 from h2];simp)]
  exact ih (fun y hy=>h y (List.mem_cons_of_mem _ hy)) (fun y hy=>hp y (List.mem_cons_of_mem _ hy))
end Go.Proofs.YtgpigjoonhghhaaGreat

namespace Go.Proofs.YtgpigjoonhghhaaGreat
open Go.RowKit
set_option linter.unusedVariables false
theorem rd_same (t:Int) (xs:List Int) (x y:Pv) (C D:Pc) (hx:x.t=t) (hy:y.t=t) (h:RdAs t xs x C) (k:RdAs t xs y D):sameV x C y D=true:=by
 unfold sameV
 rw [hx,hy,if_neg (by simp)]
 by_cases e33:t=33
 ·rw [if_pos e33,h.a33 e33,k.a33 e33];simp
 rw [if_neg e33]
 by_cases e34:t=34
 ·rw [if_pos e34,(h.a34 e34).1,(h.a34 e34).2,(k.a34 e34).1,(k.a34 e34).2];simp
 rw [if_neg e34]
 by_cases e35:t=35∨t=36
 ·rw [if_pos e35,(h.a35 e35).1,(h.a35 e35).2,(k.a35 e35).1,(k.a35 e35).2];simp
 rw [if_neg e35]
 by_cases e39:t=39
 ·rw [if_pos e39,(h.a39 e39).1,(h.a39 e39).2,(k.a39 e39).1,(k.a39 e39).2];simp
 rw [if_neg e39]
 by_cases e41:t=41
 ·obtain ⟨a1,a2,a3,a4⟩:=h.a41 e41
  obtain ⟨b1,b2,b3,b4⟩:=k.a41 e41
  rw [if_pos e41,a1,a2,a3,a4,b1,b2,b3,b4];simp
 rw [if_neg e41]
 by_cases e42:t=42
 ·rw [if_pos e42,(h.a42 e42).1,(h.a42 e42).2,(k.a42 e42).1,(k.a42 e42).2];simp
 rw [if_neg e42]
 by_cases e44:t=44∨t=45
 ·rw [if_pos e44,h.a44 e44,k.a44 e44];simp
 rw [if_neg e44,h.aX e33 e34 (fun e=>e35 (Or.inl e)) (fun e=>e35 (Or.inr e)) e39 e41 e42 (fun e=>e44 (Or.inl e)) (fun e=>e44 (Or.inr e)),
  k.aX e33 e34 (fun e=>e35 (Or.inl e)) (fun e=>e35 (Or.inr e)) e39 e41 e42 (fun e=>e44 (Or.inl e)) (fun e=>e44 (Or.inr e))]
 simp
end Go.Proofs.YtgpigjoonhghhaaGreat
