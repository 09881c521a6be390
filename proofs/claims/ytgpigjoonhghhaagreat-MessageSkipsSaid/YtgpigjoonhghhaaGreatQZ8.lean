/-
 The document's own fits, where the numbers of a payload fit.
 Package payload's build, kind by kind.
 Package payload's Parse and Build at all types: by pure functions of what is read and written.
 The document's own reader of notifications.
 What the document's own Parse of proposals returns, for any bytes of at most a mebibyte.
 The bodies of payloads, as functions: what is written is read again, and what is read is written with as many bytes.
 What chain.Parse returns: the payloads in any bytes, or the first error.
-/
import Derived.Test.YtgpigjoonhghhaaGreatQZ7
import Derived.Test.YtgpigjoonhghhaaGreatQZ2
import Derived.Test.YtgpigjoonhghhaaGreatQZ14
import Derived.Test.YtgpigjoonhghhaaGreatQZ6
import Derived.Test.YtgpigjoonhghhaaGreatQZ4
import Derived.Test.YtgpigjoonhghhaaGreatQZ11
import Derived.Test.YtgpigjoonhghhaaGreatQZ16
import Derived.Test.YtgpigjoonhghhaaGreatQZ13
import Derived.Test.YtgpigjoonhghhaaGreatQPayDel
import Derived.Test.YtgpigjoonhghhaaGreatQPayNote
import Derived.Test.YtgpigjoonhghhaaGreatQZ5
import Derived.Test.YtgpigjoonhghhaaGreatQZ19
import Derived.Test.YtgpigjoonhghhaaGreatQZ20
import Derived.Test.YtgpigjoonhghhaaGreatQZ21
import Derived.Test.YtgpigjoonhghhaaGreatQZ22
import Derived.Test.YtgpigjoonhghhaaGreatQZ23
import Derived.Test.YtgpigjoonhghhaaGreatQZ24
import Derived.Test.YtgpigjoonhghhaaGreatQZ25
import Derived.Test.YtgpigjoonhghhaaGreatQZ18
import Derived.Test.YtgpigjoonhghhaaGreatQZ1
import Derived.Test.YtgpigjoonhghhaaGreatQRReadAll4
import Derived.Deep.Cut
import Derived.Deep.CutRange
import Derived.Deep.RegionHeld3
namespace Go.Proofs.YtgpigjoonhghhaaGreat
open Go.RowKit
set_option linter.unusedVariables false
set_option maxHeartbeats 800000 in
set_option maxRecDepth 100000 in
theorem rbyteOK_yes (k:Int) (h0:0≤k) (h1:k≤255) (w:World):Calls Tryz.prog 35 #[.int .i64 k] w fun e w'=>e=.returned (.bool true)∧Below w.heap.size w w':=by
 go_enter Tryz.func35,Tryz.ntmps35
 go_wp2
 go_ret
 exact ⟨rfl,Below.refl _ _⟩
structure Fit (x:Pv):Prop where
 r:1≤x.t∧x.t≤255
 e34:x.t=34→0≤x.eg∧x.eg≤65535
 e35:x.t=35∨x.t=36→0≤x.ik∧x.ik≤255
 e39:x.t=39→0≤x.am∧x.am≤255
 e41:x.t=41→0≤x.np∧x.np≤255∧0≤x.nt∧x.nt≤65535
 e42:x.t=42→0≤x.dp∧x.dp≤255
set_option maxHeartbeats 3200000 in
set_option maxRecDepth 100000 in
theorem rfits_yes (x:Pv) (w:World) (h:Fit x):Calls Tryz.prog 16 #[(.agg #[.int .i64 x.t,.slice x.pr.p x.pr.n x.pr.c,.int .i64 x.eg,.slice x.ed.p x.ed.n x.ed.c,.int .i64 x.ik,.slice x.id.p x.id.n x.id.c,.int .i64 x.am,.slice x.ad.p x.ad.n x.ad.c,.int .i64 x.np,.slice x.ns.p x.ns.n x.ns.c,.int .i64 x.nt,.slice x.nd.p x.nd.n x.nd.c,.int .i64 x.dp,.slice x.ds.p x.ds.n x.ds.c,.slice x.se.p x.se.n x.se.c,.slice x.da.p x.da.n x.da.c])] w fun e w'=>e=.returned (.bool true)∧Below w.heap.size w w':=by
 obtain ⟨⟨r1,r2⟩,h34,h35,h39,h41,h42⟩:=h
 have HB:=hidden ((Below.refl w.heap.size w).alloc (Nat.le_refl _) (.cells #[.int .i64 x.t,.slice x.pr.p x.pr.n x.pr.c,.int .i64 x.eg,.slice x.ed.p x.ed.n x.ed.c,.int .i64 x.ik,.slice x.id.p x.id.n x.id.c,.int .i64 x.am,.slice x.ad.p x.ad.n x.ad.c,.int .i64 x.np,.slice x.ns.p x.ns.n x.ns.c,.int .i64 x.nt,.slice x.nd.p x.nd.n x.nd.c,.int .i64 x.dp,.slice x.ds.p x.ds.n x.ds.c,.slice x.se.p x.se.n x.se.c,.slice x.da.p x.da.n x.da.c] 49))
 have HY:=hidden (fun k h0 h1 W=>rbyteOK_yes k h0 h1 W)
 have HP:=hidden (fun W (hW:Below (w.alloc (.cells #[.int .i64 x.t,.slice x.pr.p x.pr.n x.pr.c,.int .i64 x.eg,.slice x.ed.p x.ed.n x.ed.c,.int .i64 x.ik,.slice x.id.p x.id.n x.id.c,.int .i64 x.am,.slice x.ad.p x.ad.n x.ad.c,.int .i64 x.np,.slice x.ns.p x.ns.n x.ns.c,.int .i64 x.nt,.slice x.nd.p x.nd.n x.nd.c,.int .i64 x.dp,.slice x.ds.p x.ds.n x.ds.c,.slice x.se.p x.se.n x.se.c,.slice x.da.p x.da.n x.da.c] 49)).heap.size (w.alloc (.cells #[.int .i64 x.t,.slice x.pr.p x.pr.n x.pr.c,.int .i64 x.eg,.slice x.ed.p x.ed.n x.ed.c,.int .i64 x.ik,.slice x.id.p x.id.n x.id.c,.int .i64 x.am,.slice x.ad.p x.ad.n x.ad.c,.int .i64 x.np,.slice x.ns.p x.ns.n x.ns.c,.int .i64 x.nt,.slice x.nd.p x.nd.n x.nd.c,.int .i64 x.dp,.slice x.ds.p x.ds.n x.ds.c,.slice x.se.p x.se.n x.se.c,.slice x.da.p x.da.n x.da.c] 49)) W)=>(PvIn.new w x 49).below hW)
 obtain ⟨t,pr,eg,ed,ik,id,am,ad,np,ns,nt,nd,dp,ds,se,da⟩:=x
 dsimp only at *
 by_cases h34_:t=34
 ·subst h34_
  obtain ⟨f0,f1⟩:=h34 rfl
  clear h34 h35 h39 h41 h42
  go_enter Tryz.func16,Tryz.ntmps16
  go_wp2
  go_ret
  exact ⟨rfl,HB.out⟩
 by_cases h35_:t=35
 ·subst h35_
  obtain ⟨f0,f1⟩:=h35 (Or.inl rfl)
  clear h34 h35 h39 h41 h42
  go_enter Tryz.func16,Tryz.ntmps16
  go_wp2_with (first
   | (go_at_call 35;(with_reducible refine (HY.out _ f0 f1 _).mono ?_);rintro e w2 ⟨rfl,hb⟩;have HB2:=hidden (HB.out.trans (hb.mono HB.out.size));have hp:=HP.out w2 hb;obtain ⟨c0,c1,c2,c3,c4,c5,c6,c7,c8,c9,c10,c11,c12,c13,c14,c15,cf⟩:=hp;clear hb)
   | fail)
  go_ret
  exact ⟨rfl,HB2.out⟩
 by_cases h36_:t=36
 ·subst h36_
  obtain ⟨f0,f1⟩:=h35 (Or.inr rfl)
  clear h34 h35 h39 h41 h42
  go_enter Tryz.func16,Tryz.ntmps16
  go_wp2_with (first
   | (go_at_call 35;(with_reducible refine (HY.out _ f0 f1 _).mono ?_);rintro e w2 ⟨rfl,hb⟩;have HB2:=hidden (HB.out.trans (hb.mono HB.out.size));have hp:=HP.out w2 hb;obtain ⟨c0,c1,c2,c3,c4,c5,c6,c7,c8,c9,c10,c11,c12,c13,c14,c15,cf⟩:=hp;clear hb)
   | fail)
  go_ret
  exact ⟨rfl,HB2.out⟩
 by_cases h39_:t=39
 ·subst h39_
  obtain ⟨f0,f1⟩:=h39 rfl
  clear h34 h35 h39 h41 h42
  go_enter Tryz.func16,Tryz.ntmps16
  go_wp2_with (first
   | (go_at_call 35;(with_reducible refine (HY.out _ f0 f1 _).mono ?_);rintro e w2 ⟨rfl,hb⟩;have HB2:=hidden (HB.out.trans (hb.mono HB.out.size));have hp:=HP.out w2 hb;obtain ⟨c0,c1,c2,c3,c4,c5,c6,c7,c8,c9,c10,c11,c12,c13,c14,c15,cf⟩:=hp;clear hb)
   | fail)
  go_ret
  exact ⟨rfl,HB2.out⟩
 by_cases h41_:t=41
 ·subst h41_
  obtain ⟨f0,f1,f2,f3⟩:=h41 rfl
  clear h34 h35 h39 h41 h42
  go_enter Tryz.func16,Tryz.ntmps16
  go_wp2_with (first
   | (go_at_call 35;(with_reducible refine (HY.out _ f0 f1 _).mono ?_);rintro e w2 ⟨rfl,hb⟩;have HB2:=hidden (HB.out.trans (hb.mono HB.out.size));have hp:=HP.out w2 hb;obtain ⟨c0,c1,c2,c3,c4,c5,c6,c7,c8,c9,c10,c11,c12,c13,c14,c15,cf⟩:=hp;clear hb)
   | fail)
  go_ret
  exact ⟨rfl,HB2.out⟩
 by_cases h42_:t=42
 ·subst h42_
  obtain ⟨f0,f1⟩:=h42 rfl
  clear h34 h35 h39 h41 h42
  go_enter Tryz.func16,Tryz.ntmps16
  go_wp2_with (first
   | (go_at_call 35;(with_reducible refine (HY.out _ f0 f1 _).mono ?_);rintro e w2 ⟨rfl,hb⟩;have HB2:=hidden (HB.out.trans (hb.mono HB.out.size));have hp:=HP.out w2 hb;obtain ⟨c0,c1,c2,c3,c4,c5,c6,c7,c8,c9,c10,c11,c12,c13,c14,c15,cf⟩:=hp;clear hb)
   | fail)
  go_ret
  exact ⟨rfl,HB2.out⟩
 have e34:(t == 34)=false:=by simpa using h34_
 have e35:(t == 35)=false:=by simpa using h35_
 have e36:(t == 36)=false:=by simpa using h36_
 have e39:(t == 39)=false:=by simpa using h39_
 have e41:(t == 41)=false:=by simpa using h41_
 have e42:(t == 42)=false:=by simpa using h42_
 clear h34 h35 h39 h41 h42 h34_ h35_ h36_ h39_ h41_ h42_
 go_enter Tryz.func16,Tryz.ntmps16
 go_wp2
 go_ret
 exact ⟨rfl,HB.out⟩
end Go.Proofs.YtgpigjoonhghhaaGreat

namespace Go.Proofs.YtgpigjoonhghhaaGreat
open Go.RowKit
set_option linter.unusedVariables false
set_option linter.unusedSimpArgs false
theorem buildS_rng (l:List Sl) : ∀ z∈(buildS l).1,0≤z∧z≤255:=by
 unfold buildS
 repeat' split
 all_goals first
  | (intro z hz;cases hz;done)
  | exact rng_append (by intro z hz;simp at hz;omega) (encL_rng _)
theorem own_be {w w':World} {v:Value} {L:List Int} {E:Int} (h:Own w' w.heap.size 5 v L) (hr : ∀ z∈L,0≤z∧z≤255) (hb:Below w.heap.size w w'):GotBE w L E (.returned (.tuple #[v,.int .i64 E])) w':=by
 obtain ⟨q,d,rfl,hf⟩:=h.frs rfl hr
 exact ⟨q,d,rfl,hf,hb⟩
def headL (k:Int) (d:List Int):List Int:=[k % 256,0,0,0]++d
end Go.Proofs.YtgpigjoonhghhaaGreat

namespace Go.Proofs.YtgpigjoonhghhaaGreat
open Go.RowKit
set_option linter.unusedVariables false
structure PvSz (x:Pv):Prop where
 ed:x.t=34→x.ed.n≤1000000
 id:x.t=35∨x.t=36→x.id.n≤1000000
 ad:x.t=39→x.ad.n≤1000000
 ns:x.t=41→x.ns.n≤1000000
 nd:x.t=41→x.nd.n≤1000000
 ds:x.t=42→x.ds.n≤1000000
 da:x.t≠33→x.t≠34→x.t≠35→x.t≠36→x.t≠39→x.t≠41→x.t≠42→x.t≠44→x.t≠45→x.da.n≤1000000
def buildB (x:Pv) (C:Pc):List Int × Int :=
 if x.t=33 then buildP (C.pr.map PrP.pr)
 else if x.t=34 then (exchL x.eg C.ed,exchE x.eg x.ed.n)
 else if x.t=35 then (headL x.ik C.id,idE x.ik x.id.n)
 else if x.t=36 then (headL x.ik C.id,idE x.ik x.id.n)
 else if x.t=39 then (headL x.am C.ad,authE x.am x.ad.n)
 else if x.t=40 then (C.da,nonceE x.da.n)
 else if x.t=41 then (noteL x.np x.nt C.ns C.nd,notifyE x.np x.nt x.ns.n)
 else if x.t=42 then (delBL x.dp (C.ds.map Sb.xs),delBE x.dp (C.ds.map Sb.xs))
 else if x.t=44 then buildS C.se
 else if x.t=45 then buildS C.se
 else (C.da,0)
def parseE (t:Int) (xs:List Int):Int :=
 if t=33 then (parseP xs).2 else if t=34 then exchangeE xs xs.length else if t=35 then identE xs xs.length else if t=36 then identE xs xs.length else if t=39 then authenE xs xs.length
 else if t=40 then nonceE xs.length else if t=41 then noteE xs xs.length else if t=42 then delE xs xs.length else if t=44 then (parseS xs).2 else if t=45 then (parseS xs).2 else 0
structure RdAs (t:Int) (xs:List Int) (x:Pv) (C:Pc):Prop where
 a33:t=33→C.pr.map PrP.pr=(parseP xs).1
 a34:t=34→x.eg=nthB xs 0*256+nthB xs 1∧C.ed=xs.drop 4
 a35:t=35∨t=36→x.ik=nthB xs 0∧C.id=xs.drop 4
 a39:t=39→x.am=nthB xs 0∧C.ad=xs.drop 4
 a41:t=41→x.np=nthB xs 0∧x.nt=nthB xs 2*256+nthB xs 3∧C.ns=(xs.drop 4).take (nthB xs 1).toNat∧C.nd=xs.drop (4+(nthB xs 1).toNat)
 a42:t=42→x.dp=nthB xs 0∧C.ds.map Sb.xs=spisL (xs.drop 4) (nthB xs 1).toNat (nthB xs 2*256+nthB xs 3).toNat
 a44:t=44∨t=45→C.se=(parseS xs).1
 aX:t≠33→t≠34→t≠35→t≠36→t≠39→t≠41→t≠42→t≠44→t≠45→C.da=xs
def gdK (t:Int) (xs:List Int):Gd where
 ok base w x:=∃ C,(∀ W,Kpt w W base→PvRk W { x with t:=t } C)∧RdAs t xs x C
 keep h hk:=by
  obtain ⟨C,h1,h2⟩:=h
  exact ⟨C,fun W hW=>h1 W (Kpt.trans hk hW),h2⟩
 mono h hb:=by
  obtain ⟨C,h1,h2⟩:=h
  exact ⟨C,fun W hW=>h1 W (hW.mono hb),h2⟩
 ty z h:=by
  obtain ⟨C,h1,h2⟩:=h
  exact ⟨C,h1,⟨h2.a33,h2.a34,h2.a35,h2.a39,h2.a41,h2.a42,h2.a44,h2.aX⟩⟩
theorem Frs.kp {w w':World} {base:Nat} {p:Option Addr} {n c:Nat} {xs:List Int} (h:Frs w base p n c xs) (hk:Kpt w w' base):Byt w' p n c xs:=(h.keep hk).byt
def Cn:Pc:=⟨[],[],[],[],[],[],[],[],[]⟩
theorem pk_33 (p:Option Addr) (n c:Nat) (xs:List Int) (cr:Bool) (w:World) (h:Byt w p n c xs) (hn:n≤1048576) :
  Calls Tryz.prog 50 #[.agg #[.int .i64 33,.bool cr,.slice p n c]] w (ParsedV w 33 (parseE 33 xs) (gdK 33 xs)):=by
 have hE:parseE 33 xs=(parseP xs).2:=by
  have hl:=h.len
  subst hl
  rfl
 rw [hE]
 refine pparse_33 p n c xs cr _ (gdK 33 xs) w h (fun W hW=>(proposals_read p n c xs W hW (by omega) _ rfl).mono ?_)
 rintro e w' ⟨x,he,hb,hg⟩
 refine ⟨x,he,hb,fun h0=>?_⟩
 obtain ⟨ls,hl,hr,hn⟩:=hg h0
 exact ⟨{ Cn with pr:=ls },fun W hW=>⟨fun _=>⟨RowG.kp (D:=DPr) hr hn hW (fun _ hx=>OkN.kp hx hW)⟩,fun e=>absurd e (show ¬ ((33:Int)=34) by decide),fun e=>absurd e (show ¬ ((33:Int)=35) by decide),fun e=>absurd e (show ¬ ((33:Int)=36) by decide),fun e=>absurd e (show ¬ ((33:Int)=39) by decide),fun e=>absurd e (show ¬ ((33:Int)=41) by decide),fun e=>absurd e (show ¬ ((33:Int)=42) by decide),fun e=>absurd e (show ¬ ((33:Int)=44) by decide),fun e=>absurd e (show ¬ ((33:Int)=45) by decide),fun e0 e1 e2 e3 e4 e5 e6 e7 e8=>absurd rfl e0⟩,⟨fun _=>hl,fun e=>absurd e (by decide),fun e=>absurd e (by decide),fun e=>absurd e (by decide),fun e=>absurd e (by decide),fun e=>absurd e (by decide),fun e=>absurd e (by decide),fun e0 e1 e2 e3 e4 e5 e6 e7 e8=>absurd rfl e0⟩⟩
theorem pk_34 (p:Option Addr) (n c:Nat) (xs:List Int) (cr:Bool) (w:World) (h:Byt w p n c xs) (hn:n≤1048576) :
  Calls Tryz.prog 50 #[.agg #[.int .i64 34,.bool cr,.slice p n c]] w (ParsedV w 34 (parseE 34 xs) (gdK 34 xs)):=by
 have hE:parseE 34 xs=exchangeE xs n:=by
  have hl:=h.len
  subst hl
  rfl
 rw [hE]
 refine pparse_34 p n c xs cr _ (gdK 34 xs) w h (fun W hW=>(exchange_read p n c xs W hW (by omega)).mono ?_)
 rintro e w' ⟨x,he,hb,hg⟩
 refine ⟨x,he,hb,fun h0=>?_⟩
 obtain ⟨h1,h2⟩:=hg h0
 exact ⟨{ Cn with ed:=xs.drop 4 },fun W hW=>⟨fun e=>absurd e (show ¬ ((34:Int)=33) by decide),fun _=>⟨Frs.kp h2 hW⟩,fun e=>absurd e (show ¬ ((34:Int)=35) by decide),fun e=>absurd e (show ¬ ((34:Int)=36) by decide),fun e=>absurd e (show ¬ ((34:Int)=39) by decide),fun e=>absurd e (show ¬ ((34:Int)=41) by decide),fun e=>absurd e (show ¬ ((34:Int)=42) by decide),fun e=>absurd e (show ¬ ((34:Int)=44) by decide),fun e=>absurd e (show ¬ ((34:Int)=45) by decide),fun e0 e1 e2 e3 e4 e5 e6 e7 e8=>absurd rfl e1⟩,⟨fun e=>absurd e (by decide),fun _=>⟨h1,rfl⟩,fun e=>absurd e (by decide),fun e=>absurd e (by decide),fun e=>absurd e (by decide),fun e=>absurd e (by decide),fun e=>absurd e (by decide),fun e0 e1 e2 e3 e4 e5 e6 e7 e8=>absurd rfl e1⟩⟩
theorem pk_35 (p:Option Addr) (n c:Nat) (xs:List Int) (cr:Bool) (w:World) (h:Byt w p n c xs) (hn:n≤1048576) :
  Calls Tryz.prog 50 #[.agg #[.int .i64 35,.bool cr,.slice p n c]] w (ParsedV w 35 (parseE 35 xs) (gdK 35 xs)):=by
 have hE:parseE 35 xs=identE xs n:=by
  have hl:=h.len
  subst hl
  rfl
 rw [hE]
 refine pparse_35 p n c xs cr _ (gdK 35 xs) w h (fun W hW=>(identity_read p n c xs W hW (by omega)).mono ?_)
 rintro e w' ⟨x,he,hb,hg⟩
 refine ⟨x,he,hb,fun h0=>?_⟩
 obtain ⟨h1,h2⟩:=hg h0
 exact ⟨{ Cn with id:=xs.drop 4 },fun W hW=>⟨fun e=>absurd e (show ¬ ((35:Int)=33) by decide),fun e=>absurd e (show ¬ ((35:Int)=34) by decide),fun _=>⟨Frs.kp h2 hW⟩,fun e=>absurd e (show ¬ ((35:Int)=36) by decide),fun e=>absurd e (show ¬ ((35:Int)=39) by decide),fun e=>absurd e (show ¬ ((35:Int)=41) by decide),fun e=>absurd e (show ¬ ((35:Int)=42) by decide),fun e=>absurd e (show ¬ ((35:Int)=44) by decide),fun e=>absurd e (show ¬ ((35:Int)=45) by decide),fun e0 e1 e2 e3 e4 e5 e6 e7 e8=>absurd rfl e2⟩,⟨fun e=>absurd e (by decide),fun e=>absurd e (by decide),fun _=>⟨h1,rfl⟩,fun e=>absurd e (by decide),fun e=>absurd e (by decide),fun e=>absurd e (by decide),fun e=>absurd e (by decide),fun e0 e1 e2 e3 e4 e5 e6 e7 e8=>absurd rfl e2⟩⟩
theorem pk_36 (p:Option Addr) (n c:Nat) (xs:List Int) (cr:Bool) (w:World) (h:Byt w p n c xs) (hn:n≤1048576) :
  Calls Tryz.prog 50 #[.agg #[.int .i64 36,.bool cr,.slice p n c]] w (ParsedV w 36 (parseE 36 xs) (gdK 36 xs)):=by
 have hE:parseE 36 xs=identE xs n:=by
  have hl:=h.len
  subst hl
  rfl
 rw [hE]
 refine pparse_36 p n c xs cr _ (gdK 36 xs) w h (fun W hW=>(identity_read p n c xs W hW (by omega)).mono ?_)
 rintro e w' ⟨x,he,hb,hg⟩
 refine ⟨x,he,hb,fun h0=>?_⟩
 obtain ⟨h1,h2⟩:=hg h0
 exact ⟨{ Cn with id:=xs.drop 4 },fun W hW=>⟨fun e=>absurd e (show ¬ ((36:Int)=33) by decide),fun e=>absurd e (show ¬ ((36:Int)=34) by decide),fun e=>absurd e (show ¬ ((36:Int)=35) by decide),fun _=>⟨Frs.kp h2 hW⟩,fun e=>absurd e (show ¬ ((36:Int)=39) by decide),fun e=>absurd e (show ¬ ((36:Int)=41) by decide),fun e=>absurd e (show ¬ ((36:Int)=42) by decide),fun e=>absurd e (show ¬ ((36:Int)=44) by decide),fun e=>absurd e (show ¬ ((36:Int)=45) by decide),fun e0 e1 e2 e3 e4 e5 e6 e7 e8=>absurd rfl e3⟩,⟨fun e=>absurd e (by decide),fun e=>absurd e (by decide),fun _=>⟨h1,rfl⟩,fun e=>absurd e (by decide),fun e=>absurd e (by decide),fun e=>absurd e (by decide),fun e=>absurd e (by decide),fun e0 e1 e2 e3 e4 e5 e6 e7 e8=>absurd rfl e3⟩⟩
theorem pk_39 (p:Option Addr) (n c:Nat) (xs:List Int) (cr:Bool) (w:World) (h:Byt w p n c xs) (hn:n≤1048576) :
  Calls Tryz.prog 50 #[.agg #[.int .i64 39,.bool cr,.slice p n c]] w (ParsedV w 39 (parseE 39 xs) (gdK 39 xs)):=by
 have hE:parseE 39 xs=authenE xs n:=by
  have hl:=h.len
  subst hl
  rfl
 rw [hE]
 refine pparse_39 p n c xs cr _ (gdK 39 xs) w h (fun W hW=>(auth_read p n c xs W hW (by omega)).mono ?_)
 rintro e w' ⟨x,he,hb,hg⟩
 refine ⟨x,he,hb,fun h0=>?_⟩
 obtain ⟨h1,h2⟩:=hg h0
 exact ⟨{ Cn with ad:=xs.drop 4 },fun W hW=>⟨fun e=>absurd e (show ¬ ((39:Int)=33) by decide),fun e=>absurd e (show ¬ ((39:Int)=34) by decide),fun e=>absurd e (show ¬ ((39:Int)=35) by decide),fun e=>absurd e (show ¬ ((39:Int)=36) by decide),fun _=>⟨Frs.kp h2 hW⟩,fun e=>absurd e (show ¬ ((39:Int)=41) by decide),fun e=>absurd e (show ¬ ((39:Int)=42) by decide),fun e=>absurd e (show ¬ ((39:Int)=44) by decide),fun e=>absurd e (show ¬ ((39:Int)=45) by decide),fun e0 e1 e2 e3 e4 e5 e6 e7 e8=>absurd rfl e4⟩,⟨fun e=>absurd e (by decide),fun e=>absurd e (by decide),fun e=>absurd e (by decide),fun _=>⟨h1,rfl⟩,fun e=>absurd e (by decide),fun e=>absurd e (by decide),fun e=>absurd e (by decide),fun e0 e1 e2 e3 e4 e5 e6 e7 e8=>absurd rfl e4⟩⟩
theorem pk_40 (p:Option Addr) (n c:Nat) (xs:List Int) (cr:Bool) (w:World) (h:Byt w p n c xs) (hn:n≤1048576) :
  Calls Tryz.prog 50 #[.agg #[.int .i64 40,.bool cr,.slice p n c]] w (ParsedV w 40 (parseE 40 xs) (gdK 40 xs)):=by
 have hE:parseE 40 xs=nonceE n:=by
  have hl:=h.len
  subst hl
  rfl
 rw [hE]
 refine pparse_40 p n c xs cr _ (gdK 40 xs) w h (fun W hW=>(nonce_read p n c xs W hW (by omega)).mono ?_)
 rintro e w' ⟨x,he,hb,hg⟩
 refine ⟨x,he,hb,fun h0=>?_⟩
 obtain h2:=hg h0
 exact ⟨{ Cn with da:=xs },fun W hW=>⟨fun e=>absurd e (show ¬ ((40:Int)=33) by decide),fun e=>absurd e (show ¬ ((40:Int)=34) by decide),fun e=>absurd e (show ¬ ((40:Int)=35) by decide),fun e=>absurd e (show ¬ ((40:Int)=36) by decide),fun e=>absurd e (show ¬ ((40:Int)=39) by decide),fun e=>absurd e (show ¬ ((40:Int)=41) by decide),fun e=>absurd e (show ¬ ((40:Int)=42) by decide),fun e=>absurd e (show ¬ ((40:Int)=44) by decide),fun e=>absurd e (show ¬ ((40:Int)=45) by decide),fun _ _ _ _ _ _ _ _ _=>⟨Frs.kp h2 hW⟩⟩,⟨fun e=>absurd e (by decide),fun e=>absurd e (by decide),fun e=>absurd e (by decide),fun e=>absurd e (by decide),fun e=>absurd e (by decide),fun e=>absurd e (by decide),fun e=>absurd e (by decide),fun _ _ _ _ _ _ _ _ _=>rfl⟩⟩
theorem pk_41 (p:Option Addr) (n c:Nat) (xs:List Int) (cr:Bool) (w:World) (h:Byt w p n c xs) (hn:n≤1048576) :
  Calls Tryz.prog 50 #[.agg #[.int .i64 41,.bool cr,.slice p n c]] w (ParsedV w 41 (parseE 41 xs) (gdK 41 xs)):=by
 have hE:parseE 41 xs=noteE xs n:=by
  have hl:=h.len
  subst hl
  rfl
 rw [hE]
 refine pparse_41 p n c xs cr _ (gdK 41 xs) w h (fun W hW=>(notify_read p n c xs W hW (by omega)).mono ?_)
 rintro e w' ⟨x,he,hb,hg⟩
 refine ⟨x,he,hb,fun h0=>?_⟩
 obtain ⟨h1,h2,h3,h4⟩:=hg h0
 exact ⟨{ Cn with ns:=(xs.drop 4).take (nthB xs 1).toNat,nd:=xs.drop (4+(nthB xs 1).toNat) },fun W hW=>⟨fun e=>absurd e (show ¬ ((41:Int)=33) by decide),fun e=>absurd e (show ¬ ((41:Int)=34) by decide),fun e=>absurd e (show ¬ ((41:Int)=35) by decide),fun e=>absurd e (show ¬ ((41:Int)=36) by decide),fun e=>absurd e (show ¬ ((41:Int)=39) by decide),fun _=>⟨Frs.kp h3 hW,Frs.kp h4 hW⟩,fun e=>absurd e (show ¬ ((41:Int)=42) by decide),fun e=>absurd e (show ¬ ((41:Int)=44) by decide),fun e=>absurd e (show ¬ ((41:Int)=45) by decide),fun e0 e1 e2 e3 e4 e5 e6 e7 e8=>absurd rfl e5⟩,⟨fun e=>absurd e (by decide),fun e=>absurd e (by decide),fun e=>absurd e (by decide),fun e=>absurd e (by decide),fun _=>⟨h1,h2,rfl,rfl⟩,fun e=>absurd e (by decide),fun e=>absurd e (by decide),fun e0 e1 e2 e3 e4 e5 e6 e7 e8=>absurd rfl e5⟩⟩
theorem pk_42 (p:Option Addr) (n c:Nat) (xs:List Int) (cr:Bool) (w:World) (h:Byt w p n c xs) (hn:n≤1048576) :
  Calls Tryz.prog 50 #[.agg #[.int .i64 42,.bool cr,.slice p n c]] w (ParsedV w 42 (parseE 42 xs) (gdK 42 xs)):=by
 have hE:parseE 42 xs=delE xs n:=by
  have hl:=h.len
  subst hl
  rfl
 rw [hE]
 refine pparse_42 p n c xs cr _ (gdK 42 xs) w h (fun W hW=>(deletion_read p n c xs W hW (by omega)).mono ?_)
 rintro e w' ⟨x,he,hb,hg⟩
 refine ⟨x,he,hb,fun h0=>?_⟩
 obtain ⟨h1,l,h2,h3⟩:=hg h0
 exact ⟨{ Cn with ds:=l },fun W hW=>⟨fun e=>absurd e (show ¬ ((42:Int)=33) by decide),fun e=>absurd e (show ¬ ((42:Int)=34) by decide),fun e=>absurd e (show ¬ ((42:Int)=35) by decide),fun e=>absurd e (show ¬ ((42:Int)=36) by decide),fun e=>absurd e (show ¬ ((42:Int)=39) by decide),fun e=>absurd e (show ¬ ((42:Int)=41) by decide),fun _=>⟨RowG.kp (D:=DSb) h2 (by obtain ⟨p',c',e,hrd⟩:=h2.sbs rfl;simp at e;rw [e.2.1]) hW (fun _ hx=>Bod.kp hx hW)⟩,fun e=>absurd e (show ¬ ((42:Int)=44) by decide),fun e=>absurd e (show ¬ ((42:Int)=45) by decide),fun e0 e1 e2 e3 e4 e5 e6 e7 e8=>absurd rfl e6⟩,⟨fun e=>absurd e (by decide),fun e=>absurd e (by decide),fun e=>absurd e (by decide),fun e=>absurd e (by decide),fun e=>absurd e (by decide),fun _=>⟨h1,h3⟩,fun e=>absurd e (by decide),fun e0 e1 e2 e3 e4 e5 e6 e7 e8=>absurd rfl e6⟩⟩
theorem pk_44 (p:Option Addr) (n c:Nat) (xs:List Int) (cr:Bool) (w:World) (h:Byt w p n c xs) (hn:n≤1048576) :
  Calls Tryz.prog 50 #[.agg #[.int .i64 44,.bool cr,.slice p n c]] w (ParsedV w 44 (parseE 44 xs) (gdK 44 xs)):=by
 have hE:parseE 44 xs=(parseS xs).2:=by
  have hl:=h.len
  subst hl
  rfl
 rw [hE]
 refine pparse_44 p n c xs cr _ (gdK 44 xs) w h (fun W hW=>(selectors_read p n c xs W hW _ rfl).mono ?_)
 rintro e w' ⟨x,he,hb,hg⟩
 refine ⟨x,he,hb,fun h0=>?_⟩
 obtain ⟨h2,h3⟩:=hg h0
 exact ⟨{ Cn with se:=(parseS xs).1 },fun W hW=>⟨fun e=>absurd e (show ¬ ((44:Int)=33) by decide),fun e=>absurd e (show ¬ ((44:Int)=34) by decide),fun e=>absurd e (show ¬ ((44:Int)=35) by decide),fun e=>absurd e (show ¬ ((44:Int)=36) by decide),fun e=>absurd e (show ¬ ((44:Int)=39) by decide),fun e=>absurd e (show ¬ ((44:Int)=41) by decide),fun e=>absurd e (show ¬ ((44:Int)=42) by decide),fun _=>⟨RowG.kp (D:=DSlr) h2 h3 hW (fun _ hx=>hx)⟩,fun e=>absurd e (show ¬ ((44:Int)=45) by decide),fun e0 e1 e2 e3 e4 e5 e6 e7 e8=>absurd rfl e7⟩,⟨fun e=>absurd e (by decide),fun e=>absurd e (by decide),fun e=>absurd e (by decide),fun e=>absurd e (by decide),fun e=>absurd e (by decide),fun e=>absurd e (by decide),fun _=>rfl,fun e0 e1 e2 e3 e4 e5 e6 e7 e8=>absurd rfl e7⟩⟩
theorem pk_45 (p:Option Addr) (n c:Nat) (xs:List Int) (cr:Bool) (w:World) (h:Byt w p n c xs) (hn:n≤1048576) :
  Calls Tryz.prog 50 #[.agg #[.int .i64 45,.bool cr,.slice p n c]] w (ParsedV w 45 (parseE 45 xs) (gdK 45 xs)):=by
 have hE:parseE 45 xs=(parseS xs).2:=by
  have hl:=h.len
  subst hl
  rfl
 rw [hE]
 refine pparse_45 p n c xs cr _ (gdK 45 xs) w h (fun W hW=>(selectors_read p n c xs W hW _ rfl).mono ?_)
 rintro e w' ⟨x,he,hb,hg⟩
 refine ⟨x,he,hb,fun h0=>?_⟩
 obtain ⟨h2,h3⟩:=hg h0
 exact ⟨{ Cn with se:=(parseS xs).1 },fun W hW=>⟨fun e=>absurd e (show ¬ ((45:Int)=33) by decide),fun e=>absurd e (show ¬ ((45:Int)=34) by decide),fun e=>absurd e (show ¬ ((45:Int)=35) by decide),fun e=>absurd e (show ¬ ((45:Int)=36) by decide),fun e=>absurd e (show ¬ ((45:Int)=39) by decide),fun e=>absurd e (show ¬ ((45:Int)=41) by decide),fun e=>absurd e (show ¬ ((45:Int)=42) by decide),fun e=>absurd e (show ¬ ((45:Int)=44) by decide),fun _=>⟨RowG.kp (D:=DSlr) h2 h3 hW (fun _ hx=>hx)⟩,fun e0 e1 e2 e3 e4 e5 e6 e7 e8=>absurd rfl e8⟩,⟨fun e=>absurd e (by decide),fun e=>absurd e (by decide),fun e=>absurd e (by decide),fun e=>absurd e (by decide),fun e=>absurd e (by decide),fun e=>absurd e (by decide),fun _=>rfl,fun e0 e1 e2 e3 e4 e5 e6 e7 e8=>absurd rfl e8⟩⟩
theorem pk_37 (p:Option Addr) (n c:Nat) (xs:List Int) (cr:Bool) (w:World) (h:Byt w p n c xs) (hn:n≤1048576) :
  Calls Tryz.prog 50 #[.agg #[.int .i64 37,.bool cr,.slice p n c]] w (ParsedV w 37 (parseE 37 xs) (gdK 37 xs)):=by
 have hE:parseE 37 xs=0:=by
  have hl:=h.len
  subst hl
  rfl
 rw [hE]
 refine pparse_37 p n c xs cr _ (gdK 37 xs) w h (fun W hW=>(data_read p n c xs W hW (by omega)).mono ?_)
 rintro e w' ⟨x,he,hb,hg⟩
 refine ⟨x,he,hb,fun h0=>?_⟩
 obtain h2:=hg h0
 exact ⟨{ Cn with da:=xs },fun W hW=>⟨fun e=>absurd e (show ¬ ((37:Int)=33) by decide),fun e=>absurd e (show ¬ ((37:Int)=34) by decide),fun e=>absurd e (show ¬ ((37:Int)=35) by decide),fun e=>absurd e (show ¬ ((37:Int)=36) by decide),fun e=>absurd e (show ¬ ((37:Int)=39) by decide),fun e=>absurd e (show ¬ ((37:Int)=41) by decide),fun e=>absurd e (show ¬ ((37:Int)=42) by decide),fun e=>absurd e (show ¬ ((37:Int)=44) by decide),fun e=>absurd e (show ¬ ((37:Int)=45) by decide),fun _ _ _ _ _ _ _ _ _=>⟨Frs.kp h2 hW⟩⟩,⟨fun e=>absurd e (by decide),fun e=>absurd e (by decide),fun e=>absurd e (by decide),fun e=>absurd e (by decide),fun e=>absurd e (by decide),fun e=>absurd e (by decide),fun e=>absurd e (by decide),fun _ _ _ _ _ _ _ _ _=>rfl⟩⟩
theorem pk_43 (p:Option Addr) (n c:Nat) (xs:List Int) (cr:Bool) (w:World) (h:Byt w p n c xs) (hn:n≤1048576) :
  Calls Tryz.prog 50 #[.agg #[.int .i64 43,.bool cr,.slice p n c]] w (ParsedV w 43 (parseE 43 xs) (gdK 43 xs)):=by
 have hE:parseE 43 xs=0:=by
  have hl:=h.len
  subst hl
  rfl
 rw [hE]
 refine pparse_43 p n c xs cr _ (gdK 43 xs) w h (fun W hW=>(data_read p n c xs W hW (by omega)).mono ?_)
 rintro e w' ⟨x,he,hb,hg⟩
 refine ⟨x,he,hb,fun h0=>?_⟩
 obtain h2:=hg h0
 exact ⟨{ Cn with da:=xs },fun W hW=>⟨fun e=>absurd e (show ¬ ((43:Int)=33) by decide),fun e=>absurd e (show ¬ ((43:Int)=34) by decide),fun e=>absurd e (show ¬ ((43:Int)=35) by decide),fun e=>absurd e (show ¬ ((43:Int)=36) by decide),fun e=>absurd e (show ¬ ((43:Int)=39) by decide),fun e=>absurd e (show ¬ ((43:Int)=41) by decide),fun e=>absurd e (show ¬ ((43:Int)=42) by decide),fun e=>absurd e (show ¬ ((43:Int)=44) by decide),fun e=>absurd e (show ¬ ((43:Int)=45) by decide),fun _ _ _ _ _ _ _ _ _=>⟨Frs.kp h2 hW⟩⟩,⟨fun e=>absurd e (by decide),fun e=>absurd e (by decide),fun e=>absurd e (by decide),fun e=>absurd e (by decide),fun e=>absurd e (by decide),fun e=>absurd e (by decide),fun e=>absurd e (by decide),fun _ _ _ _ _ _ _ _ _=>rfl⟩⟩
end Go.Proofs.YtgpigjoonhghhaaGreat

namespace Go.Proofs.YtgpigjoonhghhaaGreat
open Go.RowKit
set_option linter.unusedVariables false
theorem val_two (xs:List Int) (j:Nat) (h:j+2≤xs.length):val ((xs.drop j).take 2)=nthB xs j*256+nthB xs (j+1):=by
 have e:(xs.drop j).take 2=[nthB xs j,nthB xs (j+1)]:=by
  rw [List.drop_eq_getElem_cons (show j<xs.length by omega),List.take_succ_cons,List.drop_eq_getElem_cons (show j+1<xs.length by omega),List.take_succ_cons,List.take_zero]
  simp [nthB,List.getD_eq_getElem?_getD,List.getElem?_eq_getElem (show j<xs.length by omega),List.getElem?_eq_getElem (show j+1<xs.length by omega)]
 rw [e]
 simp [val]
section
variable {w:World} {g:Nat} {a t:Int} {s d:Sv}
theorem load_nt6 (h:NtIn w g a t s d):(loadVar 43 ⟨g,0,none⟩).run Tryz.prog w=.ok (.agg #[.int .i64 a,.slice s.p s.n s.c,.int .i64 t,.slice d.p d.n d.c]) w:=by
 obtain ⟨c0,c1,c2,c3,fr⟩:=h
 simp [loadVar,go_sem,c0,c1,c2,c3,Result.andThen]
theorem ret_nt6 {fn:Func} {R:Ending→World→Prop} {act:Act} {p u:Nat} {v:Value} (h:fn.results=#[.cell p 43,.tmp u]) (hp:act.tmps.getD p undef=.pointer (some ⟨g,0,none⟩)) (hu:act.tmps.getD u undef=v) (hd:act.defers=[])
  (hh:NtIn w g a t s d) (hR:R (.returned (.tuple #[.agg #[.int .i64 a,.slice s.p s.n s.c,.int .i64 t,.slice d.p d.n d.c],v])) w):bodyPost Tryz.prog fn R .ret act w:=by
 refine bodyPost_ret (v:=.tuple #[.agg #[.int .i64 a,.slice s.p s.n s.c,.int .i64 t,.slice d.p d.n d.c],v]) ?_ hd hR
 rw [Array.getD_eq_getD_getElem?] at hp hu
 simp [results,h,hp,hu,asAddr,load_nt6 hh,Result.andThen]
end
theorem setNt_grown (w:World) (g:Nat) (a t:Int) (s d:Sv):w.grownBy (setNt w g a t s d) (some g):=by
 unfold setNt
 exact grown_trans (grown_trans (grown_trans (grown_set _ _ _ _) (grown_set _ _ _ _)) (grown_set _ _ _ _)) (grown_set _ _ _ _)
theorem grownNil_below {w w':World} (h:w.grownBy w' (Value.slice none 0 0).ownBlock):Below w.heap.size w w':=⟨h.os,h.tape,h.output,h.size,fun i hi=>h.block i hi (by simp [Value.ownBlock])⟩
def NotedR (w:World) (xs:List Int) (E:Int) (e:Ending) (w':World):Prop :=
 ∃ (a t:Int) (s d:Sv),e=.returned (.tuple #[.agg #[.int .i64 a,.slice s.p s.n s.c,.int .i64 t,.slice d.p d.n d.c],.int .i64 E])∧Below w.heap.size w w' ∧
  (E=0→a=nthB xs 0∧t=nthB xs 2*256+nthB xs 3∧FrV w' w.heap.size s ((xs.drop 4).take (nthB xs 1).toNat)∧FrV w' w.heap.size d (xs.drop (4+(nthB xs 1).toNat)))
theorem noteE_four (xs:List Int) (n:Nat) (hr : ∀ x∈xs,0≤x∧x≤255):noteE xs n=if n<4 then 1 else if 3<nthB xs 0 then 5 else if nthB xs 1≠widthN (nthB xs 0) then 20 else if (n:Int) - 4<nthB xs 1 then 2 else 0:=by
 unfold noteE
 have h0:=rng_getD hr 0
 have h2:=rng_getD hr 2
 have h3:=rng_getD hr 3
 have e0:nthB xs 0=xs.getD 0 0:=rfl
 have e2:nthB xs 2=xs.getD 2 0:=rfl
 have e3:nthB xs 3=xs.getD 3 0:=rfl
 rw [←e0] at h0
 rw [←e2] at h2
 rw [←e3] at h3
 clear e0 e2 e3
 generalize nthB xs 0=k at *
 generalize nthB xs 1=z at *
 generalize nthB xs 2=a at *
 generalize nthB xs 3=b at *
 by_cases h4:n<4
 ·rw [if_pos h4,if_pos h4]
 rw [if_neg h4,if_neg h4]
 by_cases k3:3<k
 ·have hN:notifyE k (a*256+b) z=5:=by unfold notifyE;rw [if_pos (by omega)]
  rw [if_pos k3,hN,if_pos (by decide)]
 rw [if_neg k3,width_spi _ h0.1 (by omega)]
 by_cases k1:z=(spiZ k:Int)
 ·have hN:notifyE k (a*256+b) z=0:=by unfold notifyE;rw [if_neg (by omega),if_pos k1]
  have hk:¬ (z≠(spiZ k:Int)):=fun h=>h k1
  rw [hN,if_neg (by decide),if_neg hk]
 ·have hN:notifyE k (a*256+b) z=20:=by unfold notifyE;rw [if_neg (by omega),if_neg k1]
  rw [hN,if_pos (by decide),if_pos k1]
set_option maxHeartbeats 3200000 in
set_option maxRecDepth 100000 in
theorem rnotify_any (p:Option Addr) (n c:Nat) (xs:List Int) (w:World) (h:Byt w p n c xs) (hb:n≤140737488355328) :
  Calls Tryz.prog 45 #[.slice p n c] w (NotedR w xs (noteE xs n)):=by
 obtain ⟨i0,hi0,hz0,hz1,hz2⟩:=info_parts Tryz.infoByte
 have hn:=h.le
 have hcap:=h.cap
 have hbig:=h.big
 have hlen:=h.len
 have HB:=hidden ((Below.refl w.heap.size w).alloc (Nat.le_refl _) (.cells #[.int .i64 0,.slice none 0 0,.int .i64 0,.slice none 0 0] 43))
 have HNT:=hidden (NtIn.new w 0 0 43)
 have hE:=noteE_four xs n h.rng
 by_cases h4:n<4
 ·rw [if_pos h4] at hE
  rw [hE]
  have h4':(n:Int)<4:=by omega
  clear hE h
  obtain ⟨k0,k1,k2,k3,kf⟩:=HNT.out
  simp only [nilV] at k1 k3
  go_enter Tryz.func45,Tryz.ntmps45
  go_wp2
  exact ret_nt6 (g:=w.heap.size) (s:=nilV) (d:=nilV) rfl rfl rfl rfl HNT.out ⟨0,0,nilV,nilV,rfl,HB.out,fun h=>absurd h (by decide)⟩
 rw [if_neg h4] at hE
 obtain ⟨b,o,rfl,hc⟩:=h.at_ (by omega)
 have hbl:=h.lt (by omega)
 have r0:=rng_getD h.rng 0
 have r1:=rng_getD h.rng 1
 have r2:=rng_getD h.rng 2
 have r3:=rng_getD h.rng 3
 have HW:=hidden (rwidth_any (nthB xs 0))
 have h4':¬ (n:Int)<4:=by omega
 have c0:=cell_below ((Below.refl w.heap.size w).alloc (Nat.le_refl _) (.cells #[.int .i64 0,.slice none 0 0,.int .i64 0,.slice none 0 0] 43)) _ _ (hc 0 (by omega))
 have c1:=cell_below ((Below.refl w.heap.size w).alloc (Nat.le_refl _) (.cells #[.int .i64 0,.slice none 0 0,.int .i64 0,.slice none 0 0] 43)) _ _ (hc 1 (by omega))
 have HX0:=hidden (fun W (hW:Below w.heap.size w W)=>cell_below hW _ _ (hc 0 (by omega)))
 have HNO:=hidden (fun W (hW:Below w.heap.size w W)=>rnumber_yes (some ⟨b,o,none⟩) n c xs W (h.below hW) 2 2 (by omega) (by omega) (by omega))
 rw [val_two xs 2 (by omega),show (2:Nat)+1=3 from rfl,show ((2:Nat):Int)=2 from rfl] at HNO
 have HP:=hidden (fun W (hW:Below w.heap.size w W)=>(h.below hW))
 obtain ⟨x0,hx0⟩ : ∃ x,nthB xs 0=x:=⟨_,rfl⟩
 obtain ⟨x1,hx1⟩ : ∃ x,nthB xs 1=x:=⟨_,rfl⟩
 obtain ⟨T,hT⟩ : ∃ x,nthB xs 2*256+nthB xs 3=x:=⟨_,rfl⟩
 have hTr:0≤T∧T≤65535:=by rw [←hT];unfold nthB;omega
 rw [show xs.getD 0 0=x0 from hx0] at c0 r0 HX0
 rw [show xs.getD 1 0=x1 from hx1] at c1 r1
 rw [hx0] at HW hE
 rw [hx1] at hE
 rw [hT] at HNO
 rw [Nat.add_zero] at c0 HX0
 have HWX:Hid (widthN x0=0∨widthN x0=4):=by unfold Hid widthN;split<;>simp
 generalize widthN x0=wd at *
 have hor:b<w.heap.size:=hbl
 have hnb:¬ b=w.heap.size:=by omega
 have hnb2:¬ w.heap.size=b:=by omega
 have HE0:=Is.mk hx0
 have HE1:=Is.mk hx1
 have HET:=Is.mk hT
 clear h hc hx0 hx1 hT r2 r3
 go_enter Tryz.func45,Tryz.ntmps45
 by_cases h3:3<x0
 ·rw [if_pos h3] at hE
  rw [hE]
  go_wp2
  exact ret_nt6 (g:=w.heap.size) (s:=nilV) (d:=nilV) rfl rfl rfl rfl HNT.out ⟨0,0,nilV,nilV,rfl,HB.out,fun h=>absurd h (by decide)⟩
 rw [if_neg h3] at hE
 by_cases hw1:x1≠wd
 ·rw [if_pos hw1] at hE
  rw [hE]
  have hne:(x1 != wd)=true:=by simpa using hw1
  clear hw1
  have HC0:=hidden (fun W (hW:Below (w.alloc (.cells #[.int .i64 0,.slice none 0 0,.int .i64 0,.slice none 0 0] 43)).heap.size (w.alloc (.cells #[.int .i64 0,.slice none 0 0,.int .i64 0,.slice none 0 0] 43)) W)=>HNT.out.below hW)
  go_wp2_with (first
   | (go_at_call 38;(with_reducible refine (HW.out _).mono ?_);rintro e w2 ⟨rfl,hb2⟩;have HB2:=hidden (HB.out.trans (hb2.mono HB.out.size));have HN2:=hidden (HC0.out w2 hb2);obtain ⟨k0,k1,k2,k3,kf⟩:=HN2.out;clear hb2)
   | fail)
  simp only [nilV] at k1 k3
  have HZ:=hidden (setNt_in HN2.out 0 0 nilV nilV)
  have HBZ:=hidden (setNt_below HB2.out (Nat.le_refl w.heap.size) 0 0 nilV nilV)
  simp only [setNt,nilV] at HZ HBZ
  go_wp2
  exact ret_nt6 (g:=w.heap.size) (s:=nilV) (d:=nilV) rfl rfl rfl rfl HZ.out ⟨0,0,nilV,nilV,rfl,HBZ.out,fun h=>absurd h (by decide)⟩
 rw [if_neg hw1] at hE
 have hne:(x1 != wd)=false:=by simpa using hw1
 have HC0:=hidden (fun W (hW:Below (w.alloc (.cells #[.int .i64 0,.slice none 0 0,.int .i64 0,.slice none 0 0] 43)).heap.size (w.alloc (.cells #[.int .i64 0,.slice none 0 0,.int .i64 0,.slice none 0 0] 43)) W)=>HNT.out.below hW)
 clear hw1 HWX
 obtain ⟨S,rfl⟩:=Int.eq_ofNat_of_zero_le r1.1
 by_cases h2:(n:Int) - 4<(S:Int)
 ·rw [if_pos h2] at hE
  rw [hE]
  go_wp2_with (first
   | (go_at_call 38;(with_reducible refine (HW.out _).mono ?_);rintro e w2 ⟨rfl,hb2⟩;have HB2:=hidden (HB.out.trans (hb2.mono HB.out.size));have HN2:=hidden (HC0.out w2 hb2);obtain ⟨k0,k1,k2,k3,kf⟩:=HN2.out;clear hb2)
   | fail)
  simp only [nilV] at k1 k3
  have HZ:=hidden (setNt_in HN2.out 0 0 nilV nilV)
  have HBZ:=hidden (setNt_below HB2.out (Nat.le_refl w.heap.size) 0 0 nilV nilV)
  simp only [setNt,nilV] at HZ HBZ
  go_wp2
  exact ret_nt6 (g:=w.heap.size) (s:=nilV) (d:=nilV) rfl rfl rfl rfl HZ.out ⟨0,0,nilV,nilV,rfl,HBZ.out,fun h=>absurd h (by decide)⟩
 rw [if_neg h2] at hE
 rw [hE]
 have hlo:(4:Int)+(S:Int)≤n:=by omega
 have hs0:(0:Int)≤4+(S:Int):=by omega
 have hsc:(4:Int)+(S:Int)≤c:=by omega
 have hs4:(4:Int)≤4+(S:Int):=by omega
 have hs5:((4:Int)+(S:Int)).toNat=4+S:=by omega
 have hwS:IntKind.i64.wrap (4+(S:Int))=4+(S:Int):=wraps_i64 _ (by omega) (by omega)
 have hc4:(4:Int)≤c:=by omega
 have hn4:(4:Int)≤n:=by omega
 have hwT:IntKind.i64.wrap T=T:=wraps_i64 _ (by omega) (by omega)
 go_upto_region 11 with (first
  | (go_at_call 38;(with_reducible refine (HW.out _).mono ?_);rintro e w2 ⟨rfl,hb2⟩;have HB2:=hidden (HB.out.trans (hb2.mono HB.out.size));have HN2:=hidden (HC0.out w2 hb2);have HNU:=hidden (HNO.out w2 HB2.out);clear hb2)
  | (go_at_call 42;(with_reducible refine (HNU.out).mono ?_);rintro e w3 ⟨rfl,rfl⟩)
  | fail)
 have HBD:Hid (Below w.heap.size w w2.drew):=hidden (HB2.out.drew)
 have HND:=hidden (HN2.out.below (w':=w2.drew) (drew_below ⟨1,rfl⟩))
 have hlD:=hlen
 have HQ1:=hidden ((HP.out _ HBD.out).part 4 (4+S) (by omega) (by omega))
 have HQ2:=hidden ((HP.out _ HBD.out).part (4+S) n (by omega) (Nat.le_refl _))
 obtain ⟨bp,hbp⟩ : ∃ z,(if c=4 then (some ⟨b,o,none⟩:Option Addr) else some ⟨b,o+4,none⟩)=z:=⟨_,rfl⟩
 obtain ⟨bq,hbq⟩ : ∃ z,(if c=4+S then (some ⟨b,o,none⟩:Option Addr) else some ⟨b,o+(4+S),none⟩)=z:=⟨_,rfl⟩
 rw [Option.map_some,WideShapes.add_plain,hbp,List.drop_take,show 4+S - 4=S by omega] at HQ1
 rw [Option.map_some,WideShapes.add_plain,hbq,List.take_of_length_le (by omega)] at HQ2
 obtain ⟨Y1,hY1⟩ : ∃ y,(xs.drop 4).take S=y:=⟨_,rfl⟩
 obtain ⟨Y2,hY2⟩ : ∃ y,xs.drop (4+S)=y:=⟨_,rfl⟩
 have hl1:Y1.length=S:=by rw [←hY1];simp;omega
 have hl2:Y2.length=n - (4+S):=by rw [←hY2];simp;omega
 rw [hY1] at HQ1
 rw [hY2] at HQ2
 have HL1:=Is.mk hl1
 have HL2:=Is.mk hl2
 have HR1:=hidden HQ1.out.rng
 have HR2:=hidden HQ2.out.rng
 have HY1:=Is.mk hY1
 have HY2:=Is.mk hY2
 have hX0:=HX0.out _ HBD.out
 have hsz:=HB2.out.size
 have HSZ:=hidden (show w.heap.size+1≤w2.heap.size from HN2.out.lt)
 obtain ⟨k0,k1,k2,k3,kf⟩:=HND.out
 simp only [nilV] at k1 k3
 have HNO2:=hidden (by decide : ∀ k,(Value.slice none 0 0).ownBlock=some k→False)
 clear hY1 hY2 hl1 hl2 c0 c1 HC0 HW HNU HNO h2 h3 hE
 have hn0:(0:Int)<(n:Int):=by omega
 have hn0N:0<n:=by omega
 have hwx0:IntKind.i64.wrap x0=x0:=wraps_i64 _ (by omega) (by omega)
 go_region_held3 (fun w'=>w'.cell? ⟨b,o,none⟩=some (.int .u8 x0)) (first | exact hX0 | exact HX0.out _ HB5.out | exact HX0.out _ HB4.out | go_keep) (first
  | (refine step_append_byt _ (by rfl) _ _ 22 (by rfl) w2.heap.size 5 i0 (.int .u8 0) Tryz.underlying22 hi0 hz0 hz1 hz2 rfl _ _ (by rfl) (Own.nil _ _ _) _ _ _ _ _ (by rfl) HQ1.out (by rfl) (by simp;omega) (by simp) ?_;intro u4 w4 ho4 hg4;have hb4:=grownNil_below hg4;obtain ⟨q4,d4,rfl,hf4⟩:=Own.frs ho4 (n:=S) (by simp [HL1.eq]) (by simpa using HR1.out);have HO4:=hidden hf4;have HB4:=hidden (HBD.out.trans (hb4.mono HBD.out.size));have HN4:=hidden (HND.out.below hb4);have HQ4:=hidden (HQ2.out.below hb4);clear ho4 hg4 hf4)
  | (refine step_append_byt _ (by rfl) _ _ 22 (by rfl) w2.heap.size 5 i0 (.int .u8 0) Tryz.underlying22 hi0 hz0 hz1 hz2 rfl _ _ (by rfl) (Own.nil _ _ _) _ _ _ _ _ (by rfl) HQ4.out (by rfl) (by simp;omega) (by have:=hb4.size;simp at this;omega) ?_;intro u5 w5 ho5 hg5;have hb5:=grownNil_below hg5;obtain ⟨q5,d5,rfl,hf5⟩:=Own.frs ho5 (n:=n - (4+S)) (by simp [HL2.eq]) (by simpa using HR2.out);have HO5:=hidden hf5;have HP5:=hidden (HO4.out.below hb5);have HB5:=hidden (HB4.out.trans (hb5.mono HB4.out.size));have HN5:=hidden (HN4.out.below hb5);clear k0 k1 k2 k3 kf;obtain ⟨k0,k1,k2,k3,kf⟩:=HN5.out;clear ho5 hg5 hf5)
  | fail)
 all_goals
  have hz:=setNt_in HN5.out x0 T ⟨q4,S,d4⟩ ⟨q5,n - (4+S),d5⟩
  have hbz:=setNt_below HB5.out (Nat.le_refl w.heap.size) x0 T ⟨q4,S,d4⟩ ⟨q5,n - (4+S),d5⟩
  have hg:=setNt_grown w5 w.heap.size x0 T ⟨q4,S,d4⟩ ⟨q5,n - (4+S),d5⟩
  have hf1:=(HP5.out.low hg (by have:=HSZ.out;omega)).mono (show w.heap.size≤_ from by have:=HSZ.out;omega)
  have hf2:=(HO5.out.low hg (by have:=HSZ.out;omega)).mono (show w.heap.size≤_ from by have:=HSZ.out;omega)
  rw [List.nil_append,←HY1.eq] at hf1
  rw [List.nil_append,←HY2.eq] at hf2
  simp only [setNt] at hz hbz hf1 hf2
  have HZ:=hidden hz
  have HBZ:=hidden hbz
  have HF1:=hidden hf1
  have HF2:=hidden hf2
  have hS:(nthB xs 1).toNat=S:=by rw [HE1.eq];exact Int.toNat_natCast S
  have HS:=Is.mk hS
  clear hz hbz hg hf1 hf2 hS
  go_wp2
  exact ret_nt6 (g:=w.heap.size) (s:=⟨q4,S,d4⟩) (d:=⟨q5,n - (4+S),d5⟩) rfl rfl rfl rfl HZ.out ⟨x0,T,⟨q4,S,d4⟩,⟨q5,n - (4+S),d5⟩,rfl,HBZ.out,fun _=>⟨HE0.eq.symm,HET.eq.symm,by rw [HS.eq];exact HF1.out,by rw [HS.eq];exact HF2.out⟩⟩
end Go.Proofs.YtgpigjoonhghhaaGreat

namespace Go.Proofs.YtgpigjoonhghhaaGreat
open Go.RowKit
set_option linter.unusedVariables false
set_option maxHeartbeats 800000 in
theorem rparse4_any (p:Option Addr) (n c:Nat) (xs:List Int) (w:World) (h:Byt w p n c xs) (hn:n≤1048576) (r:List Pr × Int) (hr:parseP xs=r) :
  Calls Tryz.prog 40 #[.slice p n c] w (ParsedP w r):=by
 unfold parseP at hr
 rw [h.len] at hr
 by_cases h0:n=0
 ·rw [if_pos h0] at hr
  subst h0
  have HR:=hidden hr
  clear h hr
  go_enter Tryz.func40,Tryz.ntmps40
  go_wp2
  go_ret2
  exact parsed_fail _ _ _ _ HR.out.symm (Below.refl _ _)
 rw [if_neg h0] at hr
 have h0':((n:Int) == 0)=false:=by simp;omega
 obtain ⟨o,ho⟩ : ∃ o,prsV xs=o:=⟨_,rfl⟩
 have HC:=hidden (rread_any p n c xs w h hn o ho)
 rw [ho] at hr
 have HO:=hidden ho
 have HRG:=hidden h.rng
 have HL:=hidden h.len
 have HR:=hidden hr
 clear h ho hr
 go_enter Tryz.func40,Tryz.ntmps40
 go_wp2_with fail
 go_at_call 62
 (with_reducible refine (HC.out).mono ?_)
 rintro e w1 ⟨hb1,hh⟩
 have HB1:=hidden hb1
 cases o with
 | none =>
  subst hh
  clear hb1
  go_wp2
  go_ret2
  exact parsed_fail _ _ _ _ HR.out.symm HB1.out
 | some l =>
  obtain ⟨v,ls,rfl,hl,hrow⟩:=hh
  obtain ⟨q,d,rfl⟩:=hrow.form rfl
  have hr:=HR.out
  simp only at hr
  obtain ⟨E,hE⟩ : ∃ E,checkP l=E:=⟨_,rfl⟩
  rw [hE] at hr
  have hrd:RdG KPr DPr w1 q ls.length d ls:=by
   obtain ⟨q',d',e,h⟩:=hrow.rd (D:=DPr) rfl (fun _ h=>h.rd)
   simp at e
   obtain ⟨rfl,rfl⟩:=e
   exact h
  have HC2:=hidden (rcheckAll_any _ _ _ ls w1 hrd E (by rw [hl];exact hE))
  have HRW:=hidden hrow
  have HR2:=hidden hr
  have HLS:=hidden hl
  clear hrow hrd hb1 HC hr HR hE hl
  go_wp2_with fail
  go_at_call 57
  (with_reducible refine (HC2.out).mono ?_)
  rintro e w2 ⟨rfl,hb2⟩
  have HB2:=hidden hb2
  have HB3:=hidden (HB1.out.trans (hb2.mono HB1.out.size))
  clear hb2
  by_cases hz:E=0
  ·subst hz
   have hr:=HR2.out
   rw [if_neg (by simp)] at hr
   have HR3:=hidden hr
   clear hr HR2
   go_wp2
   go_ret2
   rw [←HR3.out]
   exact ⟨_,ls,rfl,HLS.out,HRW.out.below HB2.out,HB3.out⟩
  ·have hz':(E != 0)=true:=by simpa using hz
   have hr:=HR2.out
   rw [if_pos hz] at hr
   have HR3:=hidden hr
   clear hr HR2
   go_wp2
   go_ret2
   exact parsed_fail _ _ _ _ HR3.out.symm HB3.out
end Go.Proofs.YtgpigjoonhghhaaGreat

namespace Go.Proofs.YtgpigjoonhghhaaGreat
open Go.RowKit
set_option linter.unusedVariables false
theorem errL_all : ∀ (l:List Sl),(∀ s∈l,FitS s)→errL l=0→∀ s∈l,GoodS s
 | [],_,_=>fun s hs=>by cases hs
 | s :: l,hf,h=>by
  unfold errL at h
  split at h
  ·rename_i hc
   exact absurd h hc
  ·rename_i hc
   intro z hz
   rcases List.mem_cons.1 hz with rfl | hz
   ·exact good_of_check (hf z (by simp)) (by omega)
   ·exact errL_all l (fun s hs=>hf s (by simp [hs])) h z hz
theorem flat_get (z:Nat) : ∀ (X:List (List Int)),(∀ x∈X,x.length=z)→∀ (i:Nat) (hi:i<X.length),(X.flatten.drop (i*z)).take z=X[i]
 | [],_,i,hi=>by simp at hi
 | x :: X,h,0,_=>by
  have h1:=h x (by simp)
  rw [Nat.zero_mul,List.drop_zero,List.flatten_cons,List.getElem_cons_zero]
  rw [List.take_left' h1]
 | x :: X,h,i+1,hi=>by
  have h1:=h x (by simp)
  rw [List.flatten_cons,show (i+1)*z=x.length+i*z by rw [Nat.add_mul,h1];omega,←List.drop_drop,List.drop_left,List.getElem_cons_succ]
  exact flat_get z X (fun y hy=>h y (by simp [hy])) i (by simpa using hi)
theorem spisL_flat (z:Nat) (X:List (List Int)) (h : ∀ x∈X,x.length=z):spisL X.flatten z X.length=X:=by
 apply List.ext_getElem (by simp [spisL])
 intro i h1 h2
 simp only [spisL,List.getElem_map,List.getElem_range]
 exact flat_get z X h i h2
theorem deleteE_z (k s t:Int) (h:deleteE k s t=0):s=(spiZ k:Int)∧(k=1∨k=2∨k=3)∧(k=1→t=0):=by
 unfold deleteE at h
 split at h
 ·exact absurd h (by decide)
 ·split at h
  ·rename_i h1 h2
   refine ⟨h2.1,by omega,fun e=>?_⟩
   by_cases ht:t=0
   ·exact ht
   ·exact absurd ⟨e,ht⟩ h2.2
  ·exact absurd h (by decide)
theorem build_parse (x:Pv) (C:Pc) (w:World) (h:PvRk w x C) (L:List Int) (hb:buildB x C=(L,0)) (hL:L.length≤65531) (hk:x.t=33∨x.t=34∨x.t=35∨x.t=36∨x.t=39∨x.t=40∨x.t=41∨x.t=42∨x.t=44∨x.t=45∨x.t=37∨x.t=43) :
  parseE x.t L=0∧∀ y D,y.t=x.t→RdAs x.t L y D→sameV y D x C=true:=by
 unfold buildB at hb
 rcases hk with e | e | e | e | e | e | e | e | e | e | e | e
 ·-- proposals
  rw [if_pos e] at hb
  have hc:checkP (C.pr.map PrP.pr)=0:=by
   unfold buildP at hb
   split at hb
   ·rename_i hc
    simp only [Prod.mk.injEq] at hb
    exact absurd hb.2 hc
   ·omega
  have hb2:L=encPs (C.pr.map PrP.pr):=by
   unfold buildP at hb
   rw [hc,if_neg (by simp)] at hb
   simp only [Prod.mk.injEq,and_true] at hb
   exact hb.symm
  have hp:=parse_build hc
  rw [←hb2] at hp
  refine ⟨by rw [e];show (parseP L).2=0;rw [hp],fun y D hy hd=>?_⟩
  have h1:=hd.a33 e
  rw [hp] at h1
  unfold sameV
  rw [hy,e]
  simp [h1]
 ·-- key exchanges
  rw [if_neg (by rw [e];decide),if_pos e] at hb
  simp only [Prod.mk.injEq] at hb
  obtain ⟨rfl,hE⟩:=hb
  have hl:=(h.a34 e).ed.len
  have hg:0≤x.eg∧x.eg≤65535:=by
   unfold exchE at hE
   split at hE
   ·exact absurd hE (by decide)
   ·omega
  have hw:x.eg / 256 % 256*256+x.eg % 256=x.eg:=by omega
  have hlen:(exchL x.eg C.ed).length=4+C.ed.length:=by simp [exchL];omega
  have n0:nthB (exchL x.eg C.ed) 0=x.eg / 256 % 256:=rfl
  have n1:nthB (exchL x.eg C.ed) 1=x.eg % 256:=rfl
  have dr:(exchL x.eg C.ed).drop 4=C.ed:=rfl
  refine ⟨?_,fun y D hy hd=>?_⟩
  ·rw [e]
   show exchangeE (exchL x.eg C.ed) (exchL x.eg C.ed).length=0
   unfold exchangeE
   rw [n0,n1,hw,hlen,if_neg (by omega),show 4+C.ed.length - 4=x.ed.n by omega]
   exact hE
  ·obtain ⟨h1,h2⟩:=hd.a34 e
   rw [n0,n1,hw] at h1
   rw [dr] at h2
   unfold sameV
   rw [hy,e]
   simp [h1,h2]
 ·-- identities
  rw [if_neg (by rw [e];decide),if_neg (by rw [e];decide),if_pos e] at hb
  simp only [Prod.mk.injEq] at hb
  obtain ⟨rfl,hE⟩:=hb
  have hl:=(h.a35 e).id.len
  have hg:x.ik % 256=x.ik:=by
   have:=idE_cases _ _ _ hE
   omega
  have hlen:(headL x.ik C.id).length=4+C.id.length:=by simp [headL];omega
  have n0:nthB (headL x.ik C.id) 0=x.ik % 256:=rfl
  have dr:(headL x.ik C.id).drop 4=C.id:=rfl
  refine ⟨?_,fun y D hy hd=>?_⟩
  ·rw [e]
   show identE (headL x.ik C.id) (headL x.ik C.id).length=0
   unfold identE
   rw [n0,hg,hlen,if_neg (by omega),show 4+C.id.length - 4=x.id.n by omega]
   exact hE
  ·obtain ⟨h1,h2⟩:=hd.a35 (Or.inl e)
   rw [n0,hg] at h1
   rw [dr] at h2
   unfold sameV
   rw [hy,e]
   simp [h1,h2]
 ·-- identities
  rw [if_neg (by rw [e];decide),if_neg (by rw [e];decide),if_neg (by rw [e];decide),if_pos e] at hb
  simp only [Prod.mk.injEq] at hb
  obtain ⟨rfl,hE⟩:=hb
  have hl:=(h.a36 e).id.len
  have hg:x.ik % 256=x.ik:=by
   have:=idE_cases _ _ _ hE
   omega
  have hlen:(headL x.ik C.id).length=4+C.id.length:=by simp [headL];omega
  have n0:nthB (headL x.ik C.id) 0=x.ik % 256:=rfl
  have dr:(headL x.ik C.id).drop 4=C.id:=rfl
  refine ⟨?_,fun y D hy hd=>?_⟩
  ·rw [e]
   show identE (headL x.ik C.id) (headL x.ik C.id).length=0
   unfold identE
   rw [n0,hg,hlen,if_neg (by omega),show 4+C.id.length - 4=x.id.n by omega]
   exact hE
  ·obtain ⟨h1,h2⟩:=hd.a35 (Or.inr e)
   rw [n0,hg] at h1
   rw [dr] at h2
   unfold sameV
   rw [hy,e]
   simp [h1,h2]
 ·-- authentications
  rw [if_neg (by rw [e];decide),if_neg (by rw [e];decide),if_neg (by rw [e];decide),if_neg (by rw [e];decide),if_pos e] at hb
  simp only [Prod.mk.injEq] at hb
  obtain ⟨rfl,hE⟩:=hb
  have hl:=(h.a39 e).ad.len
  have hg:x.am % 256=x.am:=by
   unfold authE at hE
   split at hE
   ·exact absurd hE (by decide)
   ·omega
  have hlen:(headL x.am C.ad).length=4+C.ad.length:=by simp [headL];omega
  have n0:nthB (headL x.am C.ad) 0=x.am % 256:=rfl
  have dr:(headL x.am C.ad).drop 4=C.ad:=rfl
  refine ⟨?_,fun y D hy hd=>?_⟩
  ·rw [e]
   show authenE (headL x.am C.ad) (headL x.am C.ad).length=0
   unfold authenE
   rw [n0,hg,hlen,if_neg (by omega),show 4+C.ad.length - 4=x.ad.n by omega]
   exact hE
  ·obtain ⟨h1,h2⟩:=hd.a39 e
   rw [n0,hg] at h1
   rw [dr] at h2
   unfold sameV
   rw [hy,e]
   simp [h1,h2]
 ·-- nonces
  rw [if_neg (by rw [e];decide),if_neg (by rw [e];decide),if_neg (by rw [e];decide),if_neg (by rw [e];decide),if_neg (by rw [e];decide),if_pos e] at hb
  simp only [Prod.mk.injEq] at hb
  obtain ⟨rfl,hE⟩:=hb
  have hl:=(h.aX (by rw [e];decide) (by rw [e];decide) (by rw [e];decide) (by rw [e];decide) (by rw [e];decide) (by rw [e];decide) (by rw [e];decide) (by rw [e];decide) (by rw [e];decide)).da.len
  refine ⟨?_,fun y D hy hd=>?_⟩
  ·rw [e]
   show nonceE C.da.length=0
   rw [hl]
   exact hE
  ·have h1:=hd.aX (by rw [e];decide) (by rw [e];decide) (by rw [e];decide) (by rw [e];decide) (by rw [e];decide) (by rw [e];decide) (by rw [e];decide) (by rw [e];decide) (by rw [e];decide)
   unfold sameV
   rw [hy,e]
   simp [h1]
 ·-- notifications
  rw [if_neg (by rw [e];decide),if_neg (by rw [e];decide),if_neg (by rw [e];decide),if_neg (by rw [e];decide),if_neg (by rw [e];decide),if_neg (by rw [e];decide),if_pos e] at hb
  simp only [Prod.mk.injEq] at hb
  obtain ⟨rfl,hE⟩:=hb
  have hl:=(h.a41 e).ns.len
  have hg:(0≤x.nt∧x.nt≤65535)∧(0≤x.np∧x.np≤3)∧(x.ns.n:Int)=spiZ x.np:=by
   unfold notifyE at hE
   split at hE
   ·exact absurd hE (by decide)
   ·split at hE
    ·omega
    ·exact absurd hE (by decide)
  have hz:=spiZ_le x.np
  have hw:x.nt / 256 % 256*256+x.nt % 256=x.nt:=by omega
  have hp:x.np % 256=x.np:=by omega
  have hs:(C.ns.length:Int) % 256=C.ns.length:=by omega
  have hlen:(noteL x.np x.nt C.ns C.nd).length=4+(C.ns.length+C.nd.length):=by simp [noteL];omega
  have n0:nthB (noteL x.np x.nt C.ns C.nd) 0=x.np % 256:=rfl
  have n1:nthB (noteL x.np x.nt C.ns C.nd) 1=(C.ns.length:Int) % 256:=rfl
  have n2:nthB (noteL x.np x.nt C.ns C.nd) 2=x.nt / 256 % 256:=rfl
  have n3:nthB (noteL x.np x.nt C.ns C.nd) 3=x.nt % 256:=rfl
  have dr:(noteL x.np x.nt C.ns C.nd).drop 4=C.ns++C.nd:=rfl
  have dr2:(noteL x.np x.nt C.ns C.nd).drop (4+C.ns.length)=C.nd:=by
   rw [←List.drop_drop,dr,List.drop_left]
  refine ⟨?_,fun y D hy hd=>?_⟩
  ·rw [e]
   show noteE (noteL x.np x.nt C.ns C.nd) (noteL x.np x.nt C.ns C.nd).length=0
   unfold noteE
   rw [n0,n1,n2,n3,hw,hp,hs,hlen,if_neg (by omega),hl,hE,if_neg (by simp),if_neg (by omega)]
  ·obtain ⟨h1,h2,h3,h4⟩:=hd.a41 e
   rw [n0,hp] at h1
   rw [n2,n3,hw] at h2
   rw [n1,hs,Int.toNat_natCast,dr,List.take_left] at h3
   rw [n1,hs,Int.toNat_natCast,dr2] at h4
   unfold sameV
   rw [hy,e]
   simp [h1,h2,h3,h4]
 ·-- deletions
  rw [if_neg (by rw [e];decide),if_neg (by rw [e];decide),if_neg (by rw [e];decide),if_neg (by rw [e];decide),if_neg (by rw [e];decide),if_neg (by rw [e];decide),if_neg (by rw [e];decide),if_pos e] at hb
  simp only [Prod.mk.injEq] at hb
  obtain ⟨hLL,hE⟩:=hb
  obtain ⟨X,hX⟩ : ∃ X,C.ds.map Sb.xs=X:=⟨_,rfl⟩
  rw [hX] at hLL hE
  have hd0:deleteE x.dp (sizeBad (spiZ x.dp) X) X.length=0:=by
   unfold delBE at hE
   split at hE
   ·rename_i h1
    exact absurd hE h1
   ·omega
  have hsx:spisX x.dp X=0:=by
   unfold delBE at hE
   rw [hd0,if_neg (by simp)] at hE
   exact hE
  obtain ⟨hz,hk,h1⟩:=deleteE_z _ _ _ hd0
  have hall:=sizeBad_all (spiZ x.dp) X (by exact_mod_cast hz)
  have hfl:=flatten_len _ X hall
  have hLe:L=[x.dp % 256,((spiZ x.dp:Nat):Int) % 256,(X.length:Int) / 256 % 256,(X.length:Int) % 256]++X.flatten:=by
   rw [←hLL]
   unfold delBL
   rw [hd0,if_neg (by simp)]
   unfold delL
   rw [hz]
  have hlen:L.length=4+X.length*spiZ x.dp:=by rw [hLe,List.length_append,hfl];simp
  have hz4:spiZ x.dp=0∨spiZ x.dp=4:=by unfold spiZ;split<;>simp
  have hn:X.length≤65535:=by
   rcases hz4 with h0 | h4
   ·have:x.dp=1:=by
     unfold spiZ at h0
     split at h0
     ·omega
     ·omega
    have:=h1 this
    omega
   ·rw [h4] at hlen;omega
  have n0:nthB L 0=x.dp % 256:=by rw [hLe];rfl
  have n1:nthB L 1=((spiZ x.dp:Nat):Int) % 256:=by rw [hLe];rfl
  have n2:nthB L 2=(X.length:Int) / 256 % 256:=by rw [hLe];rfl
  have n3:nthB L 3=(X.length:Int) % 256:=by rw [hLe];rfl
  have dr:L.drop 4=X.flatten:=by rw [hLe];rfl
  have e0:x.dp % 256=x.dp:=by omega
  have e1:((spiZ x.dp:Nat):Int) % 256=(spiZ x.dp:Nat):=by have:=spiZ_le x.dp;omega
  have e2:(X.length:Int) / 256 % 256*256+(X.length:Int) % 256=X.length:=by omega
  rw [hz] at hd0
  refine ⟨?_,fun y D hy hd=>?_⟩
  ·rw [e]
   show delE L L.length=0
   unfold delE
   rw [n0,n1,n2,n3,e0,e1,e2,hd0,if_neg (by omega),if_neg (by simp),dr,Int.toNat_natCast,Int.toNat_natCast,spisL_flat _ X hall,hsx,if_neg]
   rw [hlen]
   push_cast
   rw [Int.mul_comm]
   omega
  ·obtain ⟨h2,h3⟩:=hd.a42 e
   rw [n0,e0] at h2
   rw [n1,n2,n3,e1,e2,dr,Int.toNat_natCast,Int.toNat_natCast,spisL_flat _ X hall] at h3
   unfold sameV
   rw [hy,e]
   simp [h2,h3,hX]
 ·-- selectors
  rw [if_neg (by rw [e];decide),if_neg (by rw [e];decide),if_neg (by rw [e];decide),if_neg (by rw [e];decide),if_neg (by rw [e];decide),if_neg (by rw [e];decide),if_neg (by rw [e];decide),if_neg (by rw [e];decide),if_pos e] at hb
  have hfit:=(h.a44 e).se.ok
  have hz:C.se.length≠0∧C.se.length≤16∧errL C.se=0∧L=[(C.se.length:Int),0,0,0]++encL C.se:=by
   unfold buildS at hb
   split at hb
   ·simp at hb
   split at hb
   ·simp at hb
   split at hb
   ·rename_i hc
    simp only [Prod.mk.injEq] at hb
    exact absurd hb.2 hc
   ·rename_i h1 h2 h3
    simp only [Prod.mk.injEq,and_true] at hb
    exact ⟨h1,by omega,by omega,hb.symm⟩
  have hgood:=errL_all C.se hfit hz.2.2.1
  have hp:=parse_encS C.se hgood (by omega) hz.2.1 0 0 0
  rw [←hz.2.2.2] at hp
  refine ⟨by rw [e];show (parseS L).2=0;rw [hp],fun y D hy hd=>?_⟩
  have h1:=hd.a44 (Or.inl e)
  rw [hp] at h1
  unfold sameV
  rw [hy,e]
  simp [h1]
 ·-- selectors
  rw [if_neg (by rw [e];decide),if_neg (by rw [e];decide),if_neg (by rw [e];decide),if_neg (by rw [e];decide),if_neg (by rw [e];decide),if_neg (by rw [e];decide),if_neg (by rw [e];decide),if_neg (by rw [e];decide),if_neg (by rw [e];decide),if_pos e] at hb
  have hfit:=(h.a45 e).se.ok
  have hz:C.se.length≠0∧C.se.length≤16∧errL C.se=0∧L=[(C.se.length:Int),0,0,0]++encL C.se:=by
   unfold buildS at hb
   split at hb
   ·simp at hb
   split at hb
   ·simp at hb
   split at hb
   ·rename_i hc
    simp only [Prod.mk.injEq] at hb
    exact absurd hb.2 hc
   ·rename_i h1 h2 h3
    simp only [Prod.mk.injEq,and_true] at hb
    exact ⟨h1,by omega,by omega,hb.symm⟩
  have hgood:=errL_all C.se hfit hz.2.2.1
  have hp:=parse_encS C.se hgood (by omega) hz.2.1 0 0 0
  rw [←hz.2.2.2] at hp
  refine ⟨by rw [e];show (parseS L).2=0;rw [hp],fun y D hy hd=>?_⟩
  have h1:=hd.a44 (Or.inr e)
  rw [hp] at h1
  unfold sameV
  rw [hy,e]
  simp [h1]
 ·-- others
  rw [if_neg (by rw [e];decide),if_neg (by rw [e];decide),if_neg (by rw [e];decide),if_neg (by rw [e];decide),if_neg (by rw [e];decide),if_neg (by rw [e];decide),if_neg (by rw [e];decide),if_neg (by rw [e];decide),if_neg (by rw [e];decide),if_neg (by rw [e];decide)] at hb
  simp only [Prod.mk.injEq,and_true] at hb
  subst hb
  refine ⟨by rw [e];rfl,fun y D hy hd=>?_⟩
  have h1:=hd.aX (by rw [e];decide) (by rw [e];decide) (by rw [e];decide) (by rw [e];decide) (by rw [e];decide) (by rw [e];decide) (by rw [e];decide) (by rw [e];decide) (by rw [e];decide)
  unfold sameV
  rw [hy,e]
  simp [h1]
 ·-- others
  rw [if_neg (by rw [e];decide),if_neg (by rw [e];decide),if_neg (by rw [e];decide),if_neg (by rw [e];decide),if_neg (by rw [e];decide),if_neg (by rw [e];decide),if_neg (by rw [e];decide),if_neg (by rw [e];decide),if_neg (by rw [e];decide),if_neg (by rw [e];decide)] at hb
  simp only [Prod.mk.injEq,and_true] at hb
  subst hb
  refine ⟨by rw [e];rfl,fun y D hy hd=>?_⟩
  have h1:=hd.aX (by rw [e];decide) (by rw [e];decide) (by rw [e];decide) (by rw [e];decide) (by rw [e];decide) (by rw [e];decide) (by rw [e];decide) (by rw [e];decide) (by rw [e];decide)
  unfold sameV
  rw [hy,e]
  simp [h1]
end Go.Proofs.YtgpigjoonhghhaaGreat

namespace Go.Proofs.YtgpigjoonhghhaaGreat
open Go.RowKit Go.Shelf
set_option linter.unusedVariables false
attribute [local go_sem] Oper.semAt_some
theorem cells_ne {U:World} {b r:Nat} {j:Nat} {v:Value} (h:U.cell? ⟨b,j,none⟩=some v) (hr : ∃ o:Obj,U.heap[r]?=some o∧o.isCells=false):b≠r:=by
 obtain ⟨o,ho,hc⟩:=cells_of_cell h
 obtain ⟨o',ho',hc'⟩:=hr
 intro e
 simp only at ho
 rw [e,ho'] at ho
 cases ho
 rw [hc] at hc'
 cases hc'
theorem offB_non {U:World} {base:Nat} {row:Option Nat} (h : ∀ r,row=some r→r<base∨∃ o:Obj,U.heap[r]?=some o∧o.isCells=false):OffB U base row:=fun r e=>by
 rcases h r e with h | ⟨o,ho,hc⟩
 ·exact Or.inl h
 ·refine Or.inr (fun cur fz hh=>?_)
  rw [hh] at ho
  cases ho
  cases hc
theorem bod_abides (base Bd:Nat):AbidesN Bd (fun (x:RawP) U=>x.bod U base):=fun x U U' row h hg hr=>Bod.grown h hg (offB_non (fun r e=>Or.inr (hr r e).2))
theorem end_abides (R:Nat) (p:Option Addr) (n c:Nat) (r:ResC) (Bd:Nat):AbidesN Bd (EndP R p n c r):=fun pre U U' row h hg hr=>by
 obtain ⟨a,b,d,hrd,rest⟩:=h
 exact ⟨a,b,d,hrd.grown hg (fun e=>cells_ne hrd.c0 (hr R e.symm).2 rfl),rest⟩
def InvP (w:World) (pre:List RawP) (U:World):Prop :=
 (∃ v,U.cell? ⟨w.heap.size+1,0,none⟩=some v∧U.frozen? ⟨w.heap.size+1,0,none⟩=false∧Rws U (w.heap.size+2) v pre)∧Below w.heap.size w U
theorem inv_abides (w:World) (Bd:Nat) (hB:w.heap.size≤Bd):AbidesR w.heap.size Bd (InvP w):=fun pre U U' row h hg hr=>by
 obtain ⟨⟨v,hc,hf,hw⟩,hb⟩:=h
 have hne:some (w.heap.size+1)≠row:=fun e=>by
  rcases hr _ e.symm with h | ⟨_,h⟩
  ·omega
  ·exact cells_ne hc h rfl
 have hlt:=World.block_lt_of_cell? U _ hc
 refine ⟨⟨v,hg.cell hc hne,(World.frozen?_of_block (a:=⟨w.heap.size+1,0,none⟩) (hg.block _ hlt hne)).trans hf,hw.grown hg ?_ (offB_non (fun r e=>?_))⟩,hb.grown hg hb.size (fun k e=>?_)⟩
 ·intro r e ho
  rcases hr r e with h | ⟨_,h⟩
  ·have:=(hw.own.lt r ho).1
   omega
  ·obtain ⟨o,ho',hc'⟩:=h
   rcases hw.own.2 with ⟨rfl,_⟩ | ⟨g,cap,cur,rfl,_,hh,_⟩
   ·simp [Value.ownBlock] at ho
   ·simp [Value.ownBlock] at ho
    subst ho
    rw [hh] at ho'
    cases ho'
    cases hc'
 ·rcases hr r e with h | ⟨_,h⟩
  ·exact Or.inl (by omega)
  ·exact Or.inr h
 ·rcases hr k e with h | ⟨h,_⟩<;>omega
theorem wpListIn_append_rws {F:Fence} {nn:Nat} (w:World) {ops:Array Oper} {rest:List Oper} {o:Oper} {a:Act} {Q:Exit→Act→World→Prop} (hgd:o.guard=none) (s x:Operand)
  (ho:o.op=.call { callee:=.builtin .append,args:=#[s,x],argTypes:=#[34,34] })
  (base:Nat) (v:Value) (l:List RawP) (hs:a.eval s=v) (hv:Rws w base v l)
  (p:Option Addr) (m c:Nat) (r:List RawP) (hx:a.eval x=.slice p m c) (hsrc:SrcR w p m r) (hr : ∀ x∈r,x.bod w base) (hb:l.length+m≤1000000) (hbase:base≤w.heap.size)
  (h : ∀ v' w',Rws w' base v' (l++r)→w.grownBy w' v.ownBlock→wpListIn F nn Tryz.prog ops Q rest (a.put o.dst v') w'):wpListIn F nn Tryz.prog ops Q (o :: rest) a w:=by
 refine wpListIn_plain hgd fun K hK=>?_
 obtain ⟨v',w',hrun,h2,h3⟩:=run_append_rws w base o.type v l hv p m c r hsrc hr hb hbase
 unfold Oper.wpIn
 refine ⟨?_,?_⟩
 ·simp [Oper.about,ho,resolve,Target.leads,Sem.run_pure]
 ·rw [Oper.semAt_plain F _ _ (by rw [ho];intro c hc';cases hc')]
  simp [execOp,ho,resolve,invoke,builtin,hs,hx,hrun,Result.andThen]
  exact hK _ _ (h v' w' h2 h3)
theorem cell_of_heap {U:World} {b j:Nat} {cs:Array Value} {e:TypeId} {v:Value} (h:U.heap[b]?=some (.cells cs e)) (hj:cs[j]?=some v):U.cell? ⟨b,j,none⟩=some v:=by
 simp [World.cell?,h,hj]
set_option maxHeartbeats 3200000 in
set_option maxRecDepth 100000 in
theorem parseC_any (p:Option Addr) (n c:Nat) (xs:List Int) (w:World) (h:Byt w p n c xs) (hb:n≤140737488351232) (first:Int) (r:ResC) (hr:parseTop first xs=r) :
  Calls Tryz.prog 21 #[.int .i64 first,.slice p n c] w (ParsedC w r):=by
 have HX:=hidden h
 by_cases hf:first<0∨255<first
 ·have hr0:failC 5=r:=by rw [←hr,parseTop,if_pos hf]
  have HR:=hidden hr0
  clear hr hr0 h
  rcases hf with hf | hf
  ·go_enter Tryz.func21,Tryz.ntmps21
   go_wp2
   go_ret3
   exact parsedC_fail w _ 5 r HR.out (Below.refl _ _)
  ·go_enter Tryz.func21,Tryz.ntmps21
   go_wp2
   go_ret3
   exact parsedC_fail w _ 5 r HR.out (Below.refl _ _)
 have hr0:parseC 40 first xs=r:=by rw [←hr,parseTop,if_neg hf]
 have HR:=hidden hr0
 have hf1:¬ first<0:=by omega
 have hf2:¬ 255<first:=by omega
 clear hr hr0 h hf
 refine (callsIn_wide (n:=6)).1 ?_
 refine callsIn_of_wp_marks Tryz.func21 rfl trivial ?_ rfl
 simp only [Tryz.ntmps21,List.size_toArray,List.length_cons,List.length_nil,Nat.reduceAdd,Nat.reduceSub,Array.replicate_succ,Array.replicate_zero,List.push_toArray,List.append_toArray,List.nil_append,List.cons_append]
 gi_wp2
 have hB0:Below w.heap.size w ((w.alloc (.cells #[.slice p n c,.int .i64 0,.int .i64 first,.int .i64 0,.int .i64 0] 107)).alloc (.cells #[.slice none 0 0] 34)):=((Below.refl _ w).alloc (Nat.le_refl _) _).alloc (by simp) _
 have hR0:Rdr ((w.alloc (.cells #[.slice p n c,.int .i64 0,.int .i64 first,.int .i64 0,.int .i64 0] 107)).alloc (.cells #[.slice none 0 0] 34)) w.heap.size p n c 0 first 0 0 :=
  ⟨by go_simp,by go_simp,by go_simp,by go_simp,by go_simp,fun j=>by go_simp⟩
 have hI0:InvP w [] ((w.alloc (.cells #[.slice p n c,.int .i64 0,.int .i64 first,.int .i64 0,.int .i64 0] 107)).alloc (.cells #[.slice none 0 0] 34)) :=
  ⟨⟨.slice none 0 0,by go_simp,by go_simp,Rws.nil _ _⟩,hB0⟩
 have hsz:((w.alloc (.cells #[.slice p n c,.int .i64 0,.int .i64 first,.int .i64 0,.int .i64 0] 107)).alloc (.cells #[.slice none 0 0] 34)).heap.size=w.heap.size+2:=by simp
 obtain ⟨W0,hW0⟩ : ∃ W0,(w.alloc (.cells #[.slice p n c,.int .i64 0,.int .i64 first,.int .i64 0,.int .i64 0] 107)).alloc (.cells #[.slice none 0 0] 34)=W0:=⟨_,rfl⟩
 rw [hW0] at hB0 hR0 hI0 hsz ⊢
 have HSEQ:=payloads_seq w W0 w.heap.size p n c xs first r HX.out hb hB0 (Nat.le_refl _) hR0 ⟨by omega,by omega⟩ HR.out 2 (w.heap.size+2) (by omega)
 refine wpIn_rangeFunc_state rfl (by omega) (gf:=47) (bnd:=#[.pointer (some ⟨w.heap.size,0,none⟩)]) rfl trivial (enters_of Tryz.func47 (by kernel_rfl) rfl) (fun _=>rfl) HSEQ (by omega) (by omega)
  (bod_abides _ _) (end_abides _ _ _ _ _ _) (InvP w) (inv_abides w _ (by omega)) hI0
  (fun x U=>{ tmps:=#[.int .i64 first,.slice p n c,undef,undef,.slice none 0 0,.int .i64 0,.int .i64 0,.pointer (some ⟨w.heap.size,0,none⟩),.pointer (some ⟨w.heap.size+1,0,none⟩),.pointer (some ⟨U.heap.size,0,none⟩),.int .i64 first,.bool false,.bool false,.int .i64 first,.bool false,.bool false,.slice p n c,.int .i64 first,
   .agg #[.slice p n c,.int .i64 0,.int .i64 first,.int .i64 0,.int .i64 0],.func (.func 47) #[.pointer (some ⟨w.heap.size,0,none⟩)] #[],.agg #[.int .i64 x.k,.bool x.c,.slice x.p x.n x.m],undef,undef,undef,undef,undef,undef,undef,undef,undef,undef,undef,undef],defers:=[] })
  (fun x=>.cells #[.int .i64 x.k,.bool x.c,.slice x.p x.n x.m] 51) ?assign ?body ?done
 case assign =>
  intro l x U K hK
  simp only [encR]
  gi_wp2
  exact hK
 case body =>
  rintro l pre x U U2 ⟨⟨v,hc,hf,hw⟩,hbl⟩ hs hlen ho hU
  have c0:=cell_of_heap (j:=0) ho rfl
  have c1:=cell_of_heap (j:=1) ho rfl
  have c2:=cell_of_heap (j:=2) ho rfl
  obtain ⟨pv,cv,rfl,_⟩:=hw.rd rfl
  have HW:=hidden (hw.alloc (.cells #[.int .i64 x.k,.bool x.c,.slice x.p x.n x.m] 51))
  have HBL:=hidden hbl
  have HS:=hidden (show Bod U2 (w.heap.size+2) x.p x.n x.m x.b from hs)
  have hsz2:w.heap.size+1<U2.heap.size:=World.block_lt_of_cell? U2 _ hc
  have hne2:w.heap.size+1≠U2.heap.size:=by omega
  clear hw hbl hs ho
  gi_wp2_with (gi_at_builtin;refine wpListIn_append_rws _ rfl _ _ rfl (w.heap.size+2) _ pre rfl HW.out _ _ _ _ rfl (SrcR.new U2 x.k x.c x.p x.n x.m x.b _) ?c1 ?c2 ?c3 ?_)
  case c1 =>
   intro y hy
   rw [List.mem_singleton.1 hy]
   exact HS.out.alloc _
  case c2=>omega
  case c3=>simp;omega
  intro v' w3 hrw3 hg3
  have hown:=fun e=>(HW.out.own.lt (w.heap.size+1) e).1
  have hc3:=hg3.cell (cell_below ((Below.refl _ U2).alloc (Nat.le_refl _) _) _ _ hc) (fun e=>by have:=hown e.symm;omega)
  have hf3:w3.frozen? ⟨w.heap.size+1,0,none⟩=false:=(World.frozen?_of_block (a:=⟨w.heap.size+1,0,none⟩) (hg3.block _ (by simp;omega) (fun e=>by have:=hown e.symm;omega))).trans (by go_simp)
  have HB3:=hidden ((HBL.out.alloc HBL.out.size (.cells #[.int .i64 x.k,.bool x.c,.slice x.p x.n x.m] 51)).grown hg3 (by have:=HBL.out.size;simp;omega) (fun k e=>by have:=(HW.out.own.lt k e).1;omega))
  have HK3:=hidden ((KeepsOthers.alloc U2 (.cells #[.int .i64 x.k,.bool x.c,.slice x.p x.n x.m] 51)).trans (KeepsOthers.of_grownBy hg3 (fun j o e ho=>by
   rcases HW.out.own.2 with ⟨hv,_⟩ | ⟨g,cap,cur,hv,_,hh,_⟩
   ·simp at hv
    rw [hv.1] at e
    simp [Value.ownBlock] at e
   ·simp at hv
    rw [hv.1] at e
    simp [Value.ownBlock] at e
    subst e
    rw [hh] at ho
    cases ho
    rfl)))
  have HBB:=hidden (((Below.refl (w.heap.size+1) U2).alloc (by omega) (.cells #[.int .i64 x.k,.bool x.c,.slice x.p x.n x.m] 51)).grown hg3 (by simp;omega) (fun k e=>by have:=(HW.out.own.lt k e).1;omega))
  have HR3:=hidden hrw3
  clear hg3 hown hrw3 HW HBL HS hc hf
  obtain ⟨pv',cv',rfl,_⟩:=HR3.out.rd (n:=pre.length+1) (by simp)
  gi_wp2
  refine ⟨HK3.out.trans (KeepsOthers.setCell _ _ _),HBB.out.setCell (p:=⟨w.heap.size+1,0,none⟩) (Nat.le_refl _) _,⟨_,World.cell?_setCell_same' _ _ _ (by rw [hc3];rfl),by rw [World.frozen?_setCell];exact hf3,HR3.out.low (grown_set _ _ _ _) (show w.heap.size+1<w.heap.size+2 by omega)⟩,HB3.out.setCell (p:=⟨w.heap.size+1,0,none⟩) (by simp) _⟩
 case done =>
  rintro D pre W hD ⟨a,b,d,hrd,hend,hlen⟩ ⟨⟨v,hc,hf,hw⟩,hbl⟩ hK
  have fin : ∀ (nq:Nat),Below w.heap.size w ((W.drewN nq).putObj D (.deferred none))∧Rws ((W.drewN nq).putObj D (.deferred none)) w.heap.size v pre:=fun nq=>by
   have hKq:(W.drewN nq).heap[D]?=some (.deferred (some [])):=hK
   have hg:W.grownBy ((W.drewN nq).putObj D (.deferred none)) (some D):=grown_trans (grown_drewN W nq _) (grownBy_putObj' _ D _)
   refine ⟨hbl.grown hg hbl.size (fun k e=>by cases e;omega),(hw.grown hg (fun r e ho=>?_) (offB_non (fun r e=>Or.inr (by cases e;exact ⟨_,hK,rfl⟩)))).mono (by omega)⟩
   cases e
   rcases hw.own.2 with ⟨rfl,_⟩ | ⟨g,cap,cur,rfl,_,hh,_⟩
   ·simp [Value.ownBlock] at ho
   ·simp [Value.ownBlock] at ho
    subst ho
    rw [hh] at hK
    cases hK
  obtain ⟨pv,cv,rfl,_⟩:=hw.rd rfl
  have FIN:=hidden fin
  have HEND:=hidden hend
  obtain ⟨c0,c1,c2,c3,c4,fr⟩:=hrd
  have HKD:=hidden hK
  clear fin hend hw hbl c0 c1 c2 fr hf
  by_cases he:r.e=0
  ·have e1:=HEND.out he
   rw [he] at c4
   rw [e1.1] at c3
   have he0:=hidden he
   have HMAP:=hidden e1.2
   clear e1 he
   generalize hrn:r.n=rn at *
   gi_wp2
   gi_quiet (fail)
   gi_wp2
   refine ⟨by simp,.inl ⟨_,_,rfl,run_takeDeferred (show (W.drewN nq).heap[D]?=_ from HKD.out),?_⟩⟩
   exact ⟨_,results_tmp3 rfl _ _ _,⟨_,pre,by rw [hrn,he0.out];rfl,(FIN.out nq).2,HMAP.out,hlen,(FIN.out nq).1⟩⟩
  ·have he1:(r.e != 0)=true:=by simpa using he
   have hform:failC r.e=r:=by
    have:=parse_form 40 first xs
    rw [HR.out] at this
    exact (this he).symm
   have HFO:=hidden hform
   clear he hform
   generalize hre:r.e=re at *
   gi_wp2
   gi_quiet (fail)
   gi_wp2
   refine ⟨by simp,.inl ⟨_,_,rfl,run_takeDeferred (show (W.drewN nq).heap[D]?=_ from HKD.out),?_⟩⟩
   refine ⟨_,results_tmp3 rfl _ _ _,?_⟩
   simpa using parsedC_fail w _ re r HFO.out (FIN.out nq).1
end Go.Proofs.YtgpigjoonhghhaaGreat
