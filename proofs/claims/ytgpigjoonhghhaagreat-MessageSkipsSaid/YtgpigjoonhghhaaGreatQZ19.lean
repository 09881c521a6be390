/-
 Package payload's reader of proposals.
 The payloads that a list of choices makes: what is known of them, and where they stand while they are made.
 Whether a message asks for a cookie and has nothing to agree on (message.asksCookie).
 The generator of a chain's payloads: what it hands to the loop over it, and what the reader holds when it ends.
-/
import Derived.Test.YtgpigjoonhghhaaGreatQZ4
import Derived.Test.YtgpigjoonhghhaaGreatQZ16
import Derived.Test.YtgpigjoonhghhaaGreatQZ13
import Derived.Test.YtgpigjoonhghhaaGreatQZ2
import Derived.Test.YtgpigjoonhghhaaGreatQZ11
import Derived.Test.YtgpigjoonhghhaaGreatQZ5
import Derived.Shelf.RegionOpen
import Derived.OwnWalkIn
import Derived.TacticsInMore
import Derived.LoopNIn
import Derived.LoopIn
import Derived.Sort.QuietIn
namespace Go.Proofs.YtgpigjoonhghhaaGreat
open Go.RowKit
set_option linter.unusedVariables false
set_option maxHeartbeats 800000 in
set_option maxRecDepth 100000 in
theorem proposals_read (p:Option Addr) (n c:Nat) (xs:List Int) (w:World) (h:Byt w p n c xs) (hn:n≤1048576) (r:List Pr × Int) (hr:parseP xs=r) :
  Calls Tryz.prog 82 #[.slice p n c] w (ReadPv w r.2 fun w' x=>∃ ls:List PrP,ls.map PrP.pr=r.1∧RowG KPr NPr w' w.heap.size (.slice x.pr.p x.pr.n x.pr.c) ls∧ls.length=x.pr.n):=by
 have HB:=hidden ((Below.refl w.heap.size w).alloc (Nat.le_refl _) (.cells #[.int .i64 0,.slice none 0 0,.int .i64 0,.slice none 0 0,.int .i64 0,.slice none 0 0,.int .i64 0,.slice none 0 0,.int .i64 0,.slice none 0 0,.int .i64 0,.slice none 0 0,.int .i64 0,.slice none 0 0,.slice none 0 0,.slice none 0 0] 49))
 have HZ:Hid (PvIn (w.alloc (.cells #[.int .i64 0,.slice none 0 0,.int .i64 0,.slice none 0 0,.int .i64 0,.slice none 0 0,.int .i64 0,.slice none 0 0,.int .i64 0,.slice none 0 0,.int .i64 0,.slice none 0 0,.int .i64 0,.slice none 0 0,.slice none 0 0,.slice none 0 0] 49)) w.heap.size zeroP):=hidden (PvIn.new w zeroP 49)
 have HP:=hidden (pparse_any p n c xs _ (h.alloc (.cells #[.int .i64 0,.slice none 0 0,.int .i64 0,.slice none 0 0,.int .i64 0,.slice none 0 0,.int .i64 0,.slice none 0 0,.int .i64 0,.slice none 0 0,.int .i64 0,.slice none 0 0,.int .i64 0,.slice none 0 0,.slice none 0 0,.slice none 0 0] 49)) hn r hr)
 clear h
 go_enter Tryz.func82,Tryz.ntmps82
 go_wp2_with (first
  | (go_at_call 100;(with_reducible refine (HP.out).mono ?_);rintro e w2 ⟨v2,ls,rfl,hls,hrow,hbc⟩;obtain ⟨q2,d2,rfl⟩:=hrow.form rfl;have HR2:=hidden hrow;have HB2:=hidden (HB.out.trans (hbc.mono HB.out.size));have HLS:=hidden hls;have HZ2:=hidden (HZ.out.below hbc);obtain ⟨z0,z1,z2,z3,z4,z5,z6,z7,z8,z9,z10,z11,z12,z13,z14,z15,zf⟩:=HZ2.out;clear hrow hbc hls)
  | fail)
 have hlo:=setPv_grown w2 w.heap.size ⟨0,⟨q2,ls.length,d2⟩,0,nilV,0,nilV,0,nilV,0,nilV,0,nilV,0,nilV,nilV,nilV⟩
 have hz:=setPv_in HZ2.out ⟨0,⟨q2,ls.length,d2⟩,0,nilV,0,nilV,0,nilV,0,nilV,0,nilV,0,nilV,nilV,nilV⟩
 have hfl:=(HR2.out.low hlo (by simp)).mono (show w.heap.size≤_ from HB.out.size)
 have HBS:=hidden (HB2.out.grown hlo HB2.out.size (fun j hj=>by cases hj;exact Nat.le_refl _))
 simp only [setPv,nilV] at hz hfl HBS
 have HZZ:=hidden hz
 have HFF:=hidden hfl
 clear hz hfl hlo
 refine ret_pv (g:=w.heap.size) rfl rfl rfl rfl HZZ.out ?_
 exact ⟨_,rfl,HBS.out,fun _=>⟨ls,HLS.out,HFF.out,rfl⟩⟩
end Go.Proofs.YtgpigjoonhghhaaGreat

namespace Go.Proofs.YtgpigjoonhghhaaGreat
open Go.RowKit
set_option linter.unusedVariables false
def NumOk (x:Pv):Prop:=0≤x.nt∧x.nt≤65535∧x.ns.n≤100∧x.nd.n≤100
def Vld (x:Pv) (C:Pc):Prop :=
 if x.t=33 then checkP (C.pr.map PrP.pr)=0
 else if x.t=34 then (x.eg=31∨x.eg=1024)∧x.ed.n=8
 else if x.t=35∨x.t=36 then (x.ik=2∨x.ik=3∨x.ik=11)∧1≤x.id.n∧x.id.n≤100
 else if x.t=39 then (x.am=2∨x.am=14)∧1≤x.ad.n∧x.ad.n≤100
 else if x.t=40 then 16≤x.da.n∧x.da.n≤100
 else if x.t=41 then (x.np=0∧x.ns.n=0)∨(x.np=3∧x.ns.n=4)
 else if x.t=42 then (x.dp=1∧C.ds=[])∨(x.dp=3∧(C.ds.map Sb.xs=[[1,2,3,4]]∨C.ds.map Sb.xs=[[1,2,3,4],[1,2,3,5]]))
 else if x.t=44∨x.t=45 then (∀ s∈C.se,GoodS s)∧1≤C.se.length∧C.se.length≤2
 else x.da.n≤100
def MadePv (W w:World) (k:Nat) (K:Int) (e:Ending) (w':World):Prop:=∃ (x:Pv) (C:Pc),e=.returned (.agg #[.int .i64 x.t,.slice x.pr.p x.pr.n x.pr.c,.int .i64 x.eg,.slice x.ed.p x.ed.n x.ed.c,.int .i64 x.ik,.slice x.id.p x.id.n x.id.c,.int .i64 x.am,.slice x.ad.p x.ad.n x.ad.c,.int .i64 x.np,.slice x.ns.p x.ns.n x.ns.c,.int .i64 x.nt,.slice x.nd.p x.nd.n x.nd.c,.int .i64 x.dp,.slice x.ds.p x.ds.n x.ds.c,.slice x.se.p x.se.n x.se.c,.slice x.da.p x.da.n x.da.c])∧x.t=K∧PvKp w' w.heap.size x C∧RowG KPr NPr w' w.heap.size (.slice x.pr.p x.pr.n x.pr.c) C.pr∧C.pr.length=x.pr.n∧x.pr.n≤2∧x.se.n≤2∧(∀ z∈C.pr,z.ts.length≤6)∧Cod W w' k∧w.grownBy w' (some k)∧NumOk x∧Vld x C
theorem vld33 {x:Pv} {C:Pc} (e:x.t=33):Vld x C↔(checkP (C.pr.map PrP.pr)=0):=by
 unfold Vld
 rw [e]
 rw [if_pos (by decide)]
theorem vld34 {x:Pv} {C:Pc} (e:x.t=34):Vld x C↔((x.eg=31∨x.eg=1024)∧x.ed.n=8):=by
 unfold Vld
 rw [e]
 rw [if_neg (by decide)]
 rw [if_pos (by decide)]
theorem vld35 {x:Pv} {C:Pc} (e:x.t=35):Vld x C↔((x.ik=2∨x.ik=3∨x.ik=11)∧1≤x.id.n∧x.id.n≤100):=by
 unfold Vld
 rw [e]
 rw [if_neg (by decide)]
 rw [if_neg (by decide)]
 rw [if_pos (by decide)]
theorem vld36 {x:Pv} {C:Pc} (e:x.t=36):Vld x C↔((x.ik=2∨x.ik=3∨x.ik=11)∧1≤x.id.n∧x.id.n≤100):=by
 unfold Vld
 rw [e]
 rw [if_neg (by decide)]
 rw [if_neg (by decide)]
 rw [if_pos (by decide)]
theorem vld39 {x:Pv} {C:Pc} (e:x.t=39):Vld x C↔((x.am=2∨x.am=14)∧1≤x.ad.n∧x.ad.n≤100):=by
 unfold Vld
 rw [e]
 rw [if_neg (by decide)]
 rw [if_neg (by decide)]
 rw [if_neg (by decide)]
 rw [if_pos (by decide)]
theorem vld40 {x:Pv} {C:Pc} (e:x.t=40):Vld x C↔(16≤x.da.n∧x.da.n≤100):=by
 unfold Vld
 rw [e]
 rw [if_neg (by decide)]
 rw [if_neg (by decide)]
 rw [if_neg (by decide)]
 rw [if_neg (by decide)]
 rw [if_pos (by decide)]
theorem vld41 {x:Pv} {C:Pc} (e:x.t=41):Vld x C↔((x.np=0∧x.ns.n=0)∨(x.np=3∧x.ns.n=4)):=by
 unfold Vld
 rw [e]
 rw [if_neg (by decide)]
 rw [if_neg (by decide)]
 rw [if_neg (by decide)]
 rw [if_neg (by decide)]
 rw [if_neg (by decide)]
 rw [if_pos (by decide)]
theorem vld42 {x:Pv} {C:Pc} (e:x.t=42):Vld x C↔((x.dp=1∧C.ds=[])∨(x.dp=3∧(C.ds.map Sb.xs=[[1,2,3,4]]∨C.ds.map Sb.xs=[[1,2,3,4],[1,2,3,5]]))):=by
 unfold Vld
 rw [e]
 rw [if_neg (by decide)]
 rw [if_neg (by decide)]
 rw [if_neg (by decide)]
 rw [if_neg (by decide)]
 rw [if_neg (by decide)]
 rw [if_neg (by decide)]
 rw [if_pos (by decide)]
theorem vld44 {x:Pv} {C:Pc} (e:x.t=44):Vld x C↔((∀ s∈C.se,GoodS s)∧1≤C.se.length∧C.se.length≤2):=by
 unfold Vld
 rw [e]
 rw [if_neg (by decide)]
 rw [if_neg (by decide)]
 rw [if_neg (by decide)]
 rw [if_neg (by decide)]
 rw [if_neg (by decide)]
 rw [if_neg (by decide)]
 rw [if_neg (by decide)]
 rw [if_pos (by decide)]
theorem vld45 {x:Pv} {C:Pc} (e:x.t=45):Vld x C↔((∀ s∈C.se,GoodS s)∧1≤C.se.length∧C.se.length≤2):=by
 unfold Vld
 rw [e]
 rw [if_neg (by decide)]
 rw [if_neg (by decide)]
 rw [if_neg (by decide)]
 rw [if_neg (by decide)]
 rw [if_neg (by decide)]
 rw [if_neg (by decide)]
 rw [if_neg (by decide)]
 rw [if_pos (by decide)]
theorem vld37 {x:Pv} {C:Pc} (e:x.t=37):Vld x C↔(x.da.n≤100):=by
 unfold Vld
 rw [e]
 rw [if_neg (by decide)]
 rw [if_neg (by decide)]
 rw [if_neg (by decide)]
 rw [if_neg (by decide)]
 rw [if_neg (by decide)]
 rw [if_neg (by decide)]
 rw [if_neg (by decide)]
 rw [if_neg (by decide)]
theorem vld43 {x:Pv} {C:Pc} (e:x.t=43):Vld x C↔(x.da.n≤100):=by
 unfold Vld
 rw [e]
 rw [if_neg (by decide)]
 rw [if_neg (by decide)]
 rw [if_neg (by decide)]
 rw [if_neg (by decide)]
 rw [if_neg (by decide)]
 rw [if_neg (by decide)]
 rw [if_neg (by decide)]
 rw [if_neg (by decide)]
structure PyS (W w wx:World) (k:Nat) (x:Pv):Prop where
 cod:Cod W wx k
 gr:w.grownBy wx (some k)
 R:PvIn wx w.heap.size zeroP
 S:PvIn wx (w.heap.size+1) x
 ge:w.heap.size+2≤wx.heap.size
section
variable {W w wx wy:World} {k:Nat} {x:Pv}
theorem PyS.new (h:Cod W w k) (t:Int):PyS W w ((w.alloc (.cells #[.int .i64 0,.slice none 0 0,.int .i64 0,.slice none 0 0,.int .i64 0,.slice none 0 0,.int .i64 0,.slice none 0 0,.int .i64 0,.slice none 0 0,.int .i64 0,.slice none 0 0,.int .i64 0,.slice none 0 0,.slice none 0 0,.slice none 0 0] 49)).alloc (.cells #[.int .i64 t,.slice none 0 0,.int .i64 0,.slice none 0 0,.int .i64 0,.slice none 0 0,.int .i64 0,.slice none 0 0,.int .i64 0,.slice none 0 0,.int .i64 0,.slice none 0 0,.int .i64 0,.slice none 0 0,.slice none 0 0,.slice none 0 0] 49)) k { zeroP with t:=t } :=
 ⟨(h.alloc _).alloc _,grown_alloc_new (grown_alloc_new (grown_refl w _) _) _,(PvIn.new w zeroP 49).alloc _,by
  have:=PvIn.new (w.alloc (.cells #[.int .i64 0,.slice none 0 0,.int .i64 0,.slice none 0 0,.int .i64 0,.slice none 0 0,.int .i64 0,.slice none 0 0,.int .i64 0,.slice none 0 0,.int .i64 0,.slice none 0 0,.int .i64 0,.slice none 0 0,.slice none 0 0,.slice none 0 0] 49)) { zeroP with t:=t } 49
  simpa [zeroP,nilV] using this,by simp⟩
theorem PyS.grown (h:PyS W w wx k x) (hk:k<w.heap.size) (hc:Cod W wy k) (hg:wx.grownBy wy (some k)):PyS W w wy k x :=
 ⟨hc,grown_trans h.gr hg,h.R.grown hg (by simp;omega),h.S.grown hg (by simp;omega),by have:=h.ge;have:=hg.size;omega⟩
theorem PyS.alloc (h:PyS W w wx k x) (o:Obj):PyS W w (wx.alloc o) k x:=⟨h.cod.alloc o,grown_alloc_new h.gr o,h.R.alloc o,h.S.alloc o,by have:=h.ge;simp;omega⟩
theorem PyS.drew (h:PyS W w wx k x):PyS W w wx.drew k x :=
 ⟨h.cod.below (drew_below ⟨1,rfl⟩),grown_trans h.gr (grown_drewN wx 1 _),h.R.below (drew_below ⟨1,rfl⟩),h.S.below (drew_below ⟨1,rfl⟩),h.ge⟩
theorem PyS.ret (h:PyS W w wx k x) (hk:k<w.heap.size) (hb:W.heap.size≤w.heap.size) (hy:wx.grownBy wy (some (w.heap.size+1))) (y:Pv) :
  PvIn (setPv wy w.heap.size y) w.heap.size y∧Cod W (setPv wy w.heap.size y) k∧w.grownBy (setPv wy w.heap.size y) (some k)∧Kpt wx (setPv wy w.heap.size y) (w.heap.size+2):=by
 have hs:=setPv_grown wy w.heap.size y
 have hR:PvIn wy w.heap.size zeroP:=h.R.grown hy (by simp)
 refine ⟨setPv_in hR y,(h.cod.grown hy (by simp;omega) (by intro j hj;simp at hj;omega)).grown hs (by simp;omega) (by intro j hj;simp at hj;omega),?_,(Kpt.low hy (by omega)).trans (Kpt.low hs (by omega))⟩
 exact grown_own (grown_own h.gr hy (by intro j hj;simp at hj;omega)) hs (by intro j hj;simp at hj;omega)
theorem next_ps (h:PyS W w wx k x) (hk:k<w.heap.size) (m:Int) (hm:1≤m∧m≤9223372036854775807) :
  Calls Tryz.prog 10 #[.pointer (some ⟨k,0,none⟩),.int .i64 m] wx fun e w'=>∃ r:Int,e=.returned (.int .i64 r)∧0≤r∧r<m∧PyS W w w' k x∧wx.grownBy w' (some k) :=
 (next_any W wx k h.cod m hm).mono fun e w' ⟨r,he,h0,h1,hc,hg⟩=>⟨r,he,h0,h1,h.grown hk hc hg,hg⟩
theorem bytes_ps (h:PyS W w wx k x) (hk:k<w.heap.size) (n:Nat) (hn:n≤100000) :
  Calls Tryz.prog 34 #[.pointer (some ⟨k,0,none⟩),.int .i64 n] wx fun e w'=>∃ p c ys,e=.returned (.slice p n c)∧Bod w' (w.heap.size+2) p n c ys∧PyS W w w' k x∧wx.grownBy w' (some k) :=
 (mbytes_any W wx k h.cod n hn).mono fun e w' ⟨p,c,ys,he,hb,hc,hg⟩=>⟨p,c,ys,he,hb.mono h.ge,h.grown hk hc hg,hg⟩
end
theorem ret_pv1 {fn:Func} {R:Ending→World→Prop} {a:Act} {w:World} {p:Nat} {g:Nat} {x:Pv} (h:fn.results=#[.cell p 49]) (hp:a.tmps.getD p undef=.pointer (some ⟨g,0,none⟩)) (hd:a.defers=[])
  (hh:PvIn w g x) (hR:R (.returned (.agg #[.int .i64 x.t,.slice x.pr.p x.pr.n x.pr.c,.int .i64 x.eg,.slice x.ed.p x.ed.n x.ed.c,.int .i64 x.ik,.slice x.id.p x.id.n x.id.c,.int .i64 x.am,.slice x.ad.p x.ad.n x.ad.c,.int .i64 x.np,.slice x.ns.p x.ns.n x.ns.c,.int .i64 x.nt,.slice x.nd.p x.nd.n x.nd.c,.int .i64 x.dp,.slice x.ds.p x.ds.n x.ds.c,.slice x.se.p x.se.n x.se.c,.slice x.da.p x.da.n x.da.c])) w):bodyPost Tryz.prog fn R .ret a w:=by
 refine bodyPost_ret (v:=(.agg #[.int .i64 x.t,.slice x.pr.p x.pr.n x.pr.c,.int .i64 x.eg,.slice x.ed.p x.ed.n x.ed.c,.int .i64 x.ik,.slice x.id.p x.id.n x.id.c,.int .i64 x.am,.slice x.ad.p x.ad.n x.ad.c,.int .i64 x.np,.slice x.ns.p x.ns.n x.ns.c,.int .i64 x.nt,.slice x.nd.p x.nd.n x.nd.c,.int .i64 x.dp,.slice x.ds.p x.ds.n x.ds.c,.slice x.se.p x.se.n x.se.c,.slice x.da.p x.da.n x.da.c])) ?_ hd hR
 rw [Array.getD_eq_getD_getElem?] at hp
 simp [results,h,hp,asAddr,load_pv hh]
def C0:Pc:=⟨[],[],[],[],[],[],[],[],[]⟩
theorem made_plain {W w wx wz:World} {k:Nat} {y:Pv} {C:Pc} {K:Int} (ht:y.t=K) (hp:y.pr=nilV) (hc:C.pr=[]) (hrd : ∀ w',Kpt wx w' (w.heap.size+2)→PvRd w' y C) (h1:Cod W wz k) (h2:w.grownBy wz (some k)) (h3:Kpt wx wz (w.heap.size+2)) (hv:Vld y C) (hs:y.se.n≤2:=by first | exact Nat.zero_le 2 | assumption) (hnum:NumOk y:=by (refine ⟨?_,?_,?_,?_⟩<;>(try dsimp only [nilV])<;>omega)):MadePv W w k K (.returned (.agg #[.int .i64 y.t,.slice y.pr.p y.pr.n y.pr.c,.int .i64 y.eg,.slice y.ed.p y.ed.n y.ed.c,.int .i64 y.ik,.slice y.id.p y.id.n y.id.c,.int .i64 y.am,.slice y.ad.p y.ad.n y.ad.c,.int .i64 y.np,.slice y.ns.p y.ns.n y.ns.c,.int .i64 y.nt,.slice y.nd.p y.nd.n y.nd.c,.int .i64 y.dp,.slice y.ds.p y.ds.n y.ds.c,.slice y.se.p y.se.n y.se.c,.slice y.da.p y.da.n y.da.c])) wz :=
 ⟨y,C,rfl,ht,fun w' hw=>hrd w' (h3.trans (hw.mono (by omega))),by rw [hp,hc];exact RowG.nil _ _ _ _,by rw [hp,hc];rfl,by rw [hp];show 0≤2;omega,hs,(by rw [hc];intro z hz;cases hz),h1,h2,hnum,hv⟩
set_option maxHeartbeats 1600000 in
set_option maxRecDepth 100000 in
theorem mkpay33 (W w:World) (k:Nat) (h:Cod W w k):Calls Tryz.prog 15 #[.pointer (some ⟨k,0,none⟩),.int .i64 33] w (MadePv W w k 33):=by
 have hk:=h.lt
 have hbase:=h.bel.size
 have H0:=hidden (PyS.new h 33)
 clear h
 go_enter Tryz.func15,Tryz.ntmps15
 go_wp2_with (first
  | (go_at_call 10;(with_reducible refine (next_ps H0.out hk _ ?_).mono ?_);omega;rintro e w1 ⟨r,rfl,r0,r1,hd,hg⟩;have H1:=hidden hd;have hw1:IntKind.i64.wrap (2*r)=2*r:=(by rw [IntKind.wrap_i64];omega);have hw2:IntKind.i64.wrap (1+2*r)=1+2*r:=(by rw [IntKind.wrap_i64];omega);clear hd hg H0)
  | (go_at_call 32;(refine (drawP_any W w1 _ H1.out.cod 2 (by omega) (by omega) (1+2*r) (by omega)).mono ?_);rintro e w2 ⟨v,ls,rfl,hl1,hl2,hdr,hrow,hc,hg⟩;have H2:=hidden (H1.out.grown hk hc hg);have HCK:=hidden (hdr.check (by omega) hl1 (by omega));have HTS:=hidden (show ∀ z∈ls,z.ts.length≤6 from fun z hz=>by obtain ⟨j,hj,rfl⟩:=List.getElem_of_mem hz;exact (hdr j hj).ts.few);obtain ⟨pv,cv,rfl⟩:=hrow.form rfl;have HRW:=hidden (hrow.mono H1.out.ge);obtain ⟨y0,y1,y2,y3,y4,y5,y6,y7,y8,y9,y10,y11,y12,y13,y14,y15,z0,z1,z2,z3,z4,z5,z6,z7,z8,z9,z10,z11,z12,z13,z14,z15,zf⟩:=H2.out.R.any;obtain ⟨s0,s1,s2,s3,s4,s5,s6,s7,s8,s9,s10,s11,s12,s13,s14,s15,sf⟩:=H2.out.S;simp only [zeroP,nilV] at s0 s1 s2 s3 s4 s5 s6 s7 s8 s9 s10 s11 s12 s13 s14 s15;clear hdr hrow hc hg H1)
  | fail)
 have hz:=H2.out.ret hk hbase (wy:=w2.setCell ⟨w.heap.size+1,1,none⟩ (.slice pv ls.length cv)) (grown_set _ _ _ _) ⟨33,⟨pv,ls.length,cv⟩,0,nilV,0,nilV,0,nilV,0,nilV,0,nilV,0,nilV,nilV,nilV⟩
 have hrw:=(HRW.out.low (grown_set w2 (w.heap.size+1) 1 (.slice pv ls.length cv)) (by omega)).low (setPv_grown _ w.heap.size ⟨33,⟨pv,ls.length,cv⟩,0,nilV,0,nilV,0,nilV,0,nilV,0,nilV,0,nilV,nilV,nilV⟩) (by omega)
 simp only [setPv,nilV] at hz hrw
 refine ret_pv1 (g:=w.heap.size) rfl rfl rfl hz.1 ⟨⟨33,⟨pv,ls.length,cv⟩,0,nilV,0,nilV,0,nilV,0,nilV,0,nilV,0,nilV,nilV,nilV⟩,{ C0 with pr:=ls },rfl,rfl,?_,hrw.mono (by omega),rfl,hl2,Nat.zero_le 2,HTS.out,hz.2.1,hz.2.2.1,by (refine ⟨?_,?_,?_,?_⟩<;>(try dsimp only [nilV])<;>omega),(vld33 rfl).2 HCK.out⟩
 exact fun w' hk'=>⟨RowG.kp hrw rfl (hk'.mono (by omega)) (fun x hx=>OkN.kp hx (hk'.mono (by omega))),byt_nil _,byt_nil _,byt_nil _,byt_nil _,byt_nil _,rdg_nil _ _ _,rdg_nil _ _ _,byt_nil _⟩
set_option maxHeartbeats 1600000 in
set_option maxRecDepth 100000 in
theorem mkpay40 (W w:World) (k:Nat) (h:Cod W w k):Calls Tryz.prog 15 #[.pointer (some ⟨k,0,none⟩),.int .i64 40] w (MadePv W w k 40):=by
 have hk:=h.lt
 have hbase:=h.bel.size
 have H0:=hidden (PyS.new h 40)
 clear h
 go_enter Tryz.func15,Tryz.ntmps15
 go_wp2_with (first
  | (go_at_call 10;(with_reducible refine (next_ps H0.out hk _ ?_).mono ?_);omega;rintro e w1 ⟨r,rfl,r0,r1,hd,hg⟩;obtain ⟨r,rfl⟩:=Int.eq_ofNat_of_zero_le r0;have H1:=hidden hd;have hw1:IntKind.i64.wrap (16+(r:Int))=((16+r:Nat):Int):=(by rw [IntKind.wrap_i64];omega);clear hd hg H0)
  | (go_at_call 34;(refine (bytes_ps H1.out hk (16+r) ?_).mono ?_);omega;rintro e w2 ⟨pv,cv,ys,rfl,hb,hd,hg⟩;have H2:=hidden hd;have HBO:=hidden hb;obtain ⟨y0,y1,y2,y3,y4,y5,y6,y7,y8,y9,y10,y11,y12,y13,y14,y15,z0,z1,z2,z3,z4,z5,z6,z7,z8,z9,z10,z11,z12,z13,z14,z15,zf⟩:=H2.out.R.any;obtain ⟨s0,s1,s2,s3,s4,s5,s6,s7,s8,s9,s10,s11,s12,s13,s14,s15,sf⟩:=H2.out.S;simp only [zeroP,nilV] at s0 s1 s2 s3 s4 s5 s6 s7 s8 s9 s10 s11 s12 s13 s14 s15;clear hd hb hg H1)
  | fail)
 have hz:=H2.out.ret hk hbase (wy:=w2.setCell ⟨w.heap.size+1,15,none⟩ (.slice pv (16+r) cv)) (grown_set _ _ _ _) ⟨40,nilV,0,nilV,0,nilV,0,nilV,0,nilV,0,nilV,0,nilV,nilV,⟨pv,16+r,cv⟩⟩
 simp only [setPv,nilV] at hz
 exact ret_pv1 (g:=w.heap.size) rfl rfl rfl hz.1 (made_plain (C:={ C0 with da:=ys }) rfl rfl rfl (fun w' hk'=>⟨rdg_nil _ _ _,byt_nil _,byt_nil _,byt_nil _,byt_nil _,byt_nil _,rdg_nil _ _ _,rdg_nil _ _ _,HBO.out.kp hk'⟩) hz.2.1 hz.2.2.1 hz.2.2.2 ((vld40 rfl).2 ⟨by show 16≤16+r;omega,by show 16+r≤100;omega⟩))
end Go.Proofs.YtgpigjoonhghhaaGreat

namespace Go.Proofs.YtgpigjoonhghhaaGreat
open Go.RowKit
set_option linter.unusedVariables false
def plainP (x:Pv):Bool:=x.t == 41 || x.t == 43
set_option maxHeartbeats 6400000 in
set_option maxRecDepth 100000 in
theorem asksCookie_any (i r nx x f m:Int) (p:Option Addr) (n c:Nat) (l:List Pv) (w:World) (h:RdG KPv DPv w p n c l) (hn:n≤100000) :
  Calls Tryz.prog 55 #[.agg #[.int .u64 i,.int .u64 r,.int .i64 nx,.int .i64 x,.int .i64 f,.int .u32 m,.slice p n c]] w fun e w'=>e=.returned (.bool (l.all plainP && l.any (isNote 16390)))∧Below w.heap.size w w':=by
 have HBX:=hidden ((Below.refl w.heap.size w).alloc (Nat.le_refl _) (.cells #[.int .u64 i,.int .u64 r,.int .i64 nx,.int .i64 x,.int .i64 f,.int .u32 m,.slice p n c] 32))
 have H:=hidden h
 have HCX:Hid (∀ j u,(#[Value.int .u64 i,.int .u64 r,.int .i64 nx,.int .i64 x,.int .i64 f,.int .u32 m,.slice p n c]:Array Value)[j]?=some u→(w.alloc (.cells #[.int .u64 i,.int .u64 r,.int .i64 nx,.int .i64 x,.int .i64 f,.int .u32 m,.slice p n c] 32)).cell? ⟨w.heap.size,j,none⟩=some u):=fun j u hj=>by
  rw [World.cell?_alloc_at _ _ _ _ rfl]
  simpa using hj
 have HN:=hidden (fun W (hW:Below w.heap.size w W)=>notes_any i r nx x f m p n c l 16390 W (h.below hW) hn)
 obtain ⟨A,hA⟩ : ∃ A,l.any (isNote 16390)=A:=⟨_,rfl⟩
 rw [hA] at HN ⊢
 obtain ⟨R,hR⟩ : ∃ R,(l.all plainP && A)=R:=⟨_,rfl⟩
 have HR:Is ((l.drop 0).all plainP && A) R:=⟨by simpa using hR⟩
 rw [hR]
 clear hR h hA
 go_enter Tryz.func55,Tryz.ntmps55
 go_wp2_with fail
 go_loopw [8] (fun v wr=>∃ (j:Nat),j≤n∧v=.int .i64 j∧Is ((l.drop j).all plainP && A) R∧Below (w.heap.size+1) (w.alloc (.cells #[.int .u64 i,.int .u64 r,.int .i64 nx,.int .i64 x,.int .i64 f,.int .u32 m,.slice p n c] 32)) wr) (fun v _=>n - (intOf v).toNat)
 case atStart=>exact ⟨0,by omega,rfl,HR,Below.refl _ _⟩
 case round =>
  obtain ⟨j,hj,rfl,hrel,hb⟩:=hrel
  have hb':Below (w.alloc (.cells #[.int .u64 i,.int .u64 r,.int .i64 nx,.int .i64 x,.int .i64 f,.int .u32 m,.slice p n c] 32)).heap.size (w.alloc (.cells #[.int .u64 i,.int .u64 r,.int .i64 nx,.int .i64 x,.int .i64 f,.int .u32 m,.slice p n c] 32)) wr:=by simpa using hb
  have HB:=hidden (HBX.out.trans (hb'.mono HBX.out.size))
  have HB1:=hidden hb
  have m0:=cell_below hb' _ _ (HCX.out 0 _ rfl)
  have m1:=cell_below hb' _ _ (HCX.out 1 _ rfl)
  have m2:=cell_below hb' _ _ (HCX.out 2 _ rfl)
  have m3:=cell_below hb' _ _ (HCX.out 3 _ rfl)
  have m4:=cell_below hb' _ _ (HCX.out 4 _ rfl)
  have m5:=cell_below hb' _ _ (HCX.out 5 _ rfl)
  have m6:=cell_below hb' _ _ (HCX.out 6 _ rfl)
  have hsz:w.heap.size+1≤wr.heap.size:=by have:=hb'.size;simpa using this
  clear hb hb'
  by_cases hlt:j<n
  ·have hlt':(j:Int)<n:=by omega
   obtain ⟨g,y,rfl,hx,hdr,hok,hc⟩:=(H.out.below HB.out).drop_cons hlt
   have c0:=hc 0 _ rfl
   have c1:=hc 1 _ rfl
   have c2:=hc 2 _ rfl
   have c3:=hc 3 _ rfl
   have c4:=hc 4 _ rfl
   have c5:=hc 5 _ rfl
   have c6:=hc 6 _ rfl
   have c7:=hc 7 _ rfl
   have c8:=hc 8 _ rfl
   have c9:=hc 9 _ rfl
   have c10:=hc 10 _ rfl
   have c11:=hc 11 _ rfl
   have c12:=hc 12 _ rfl
   have c13:=hc 13 _ rfl
   have c14:=hc 14 _ rfl
   have c15:=hc 15 _ rfl
   simp only [Nat.add_zero] at c0
   have hf:=hrel.eq
   rw [hdr,List.all_cons] at hf
   have HBP:=hidden (HB1.out.alloc hsz (.cells #[.int .i64 y.t,.slice y.pr.p y.pr.n y.pr.c,.int .i64 y.eg,.slice y.ed.p y.ed.n y.ed.c,.int .i64 y.ik,.slice y.id.p y.id.n y.id.c,.int .i64 y.am,.slice y.ad.p y.ad.n y.ad.c,.int .i64 y.np,.slice y.ns.p y.ns.n y.ns.c,.int .i64 y.nt,.slice y.nd.p y.nd.n y.nd.c,.int .i64 y.dp,.slice y.ds.p y.ds.n y.ds.c,.slice y.se.p y.se.n y.se.c,.slice y.da.p y.da.n y.da.c] 49))
   have HBQ:=hidden (HB.out.alloc HB.out.size (.cells #[.int .i64 y.t,.slice y.pr.p y.pr.n y.pr.c,.int .i64 y.eg,.slice y.ed.p y.ed.n y.ed.c,.int .i64 y.ik,.slice y.id.p y.id.n y.id.c,.int .i64 y.am,.slice y.ad.p y.ad.n y.ad.c,.int .i64 y.np,.slice y.ns.p y.ns.n y.ns.c,.int .i64 y.nt,.slice y.nd.p y.nd.n y.nd.c,.int .i64 y.dp,.slice y.ds.p y.ds.n y.ds.c,.slice y.se.p y.se.n y.se.c,.slice y.da.p y.da.n y.da.c] 49))
   clear hok hrel hdr hx hc
   have HGO:=hidden (fun (e:plainP y=true)=>(⟨by rw [e,Bool.true_and] at hf;exact hf⟩:Is ((l.drop (j+1)).all plainP && A) R))
   have HNO:=hidden (fun (e:plainP y=false)=>(⟨by rw [e] at hf;simpa using hf⟩:Is false R))
   clear hf
   by_cases h1:y.t=41
   ·have HT:=HGO.out (by simp [plainP,h1])
    have q1:(y.t != 41)=false:=by simp [h1]
    clear HGO HNO h1
    go_wp2
    go_roundw
    case rel=>exact ⟨j+1,by omega,by go_num,HT,HBP.out⟩
    case measure=>simp [intOf];omega
   by_cases h2:y.t=43
   ·have HT:=HGO.out (by simp [plainP,h2])
    have q1:(y.t != 41)=true:=by simp [h1]
    have q2:(y.t != 43)=false:=by simp [h2]
    clear HGO HNO h1 h2
    go_wp2
    go_roundw
    case rel=>exact ⟨j+1,by omega,by go_num,HT,HBP.out⟩
    case measure=>simp [intOf];omega
   have HT:=HNO.out (by simp [plainP,h1,h2])
   have q1:(y.t != 41)=true:=by simp [h1]
   have q2:(y.t != 43)=true:=by simp [h2]
   clear HGO HNO h1 h2
   go_wp2
   go_ret
   exact ⟨by rw [←HT.eq];rfl,HBQ.out⟩
  ·have hlt':¬ (j:Int)<n:=by omega
   have hd:l.drop j=[]:=List.drop_eq_nil_of_le (by rw [H.out.len];omega)
   have hf:=hrel.eq
   rw [hd,List.all_nil,Bool.true_and] at hf
   have HF:=Is.mk hf
   clear hf hd hrel
   go_wp2_with (first
    | (go_at_call 72;(with_reducible refine (HN.out _ HB.out).mono ?_);rintro _ w1 ⟨⟨q,k,d,rfl,hk,hkn⟩,hb1⟩;have HK:=Is.mk hk;have HB2:=hidden (HB.out.trans (hb1.mono HB.out.size));clear hb1 hk)
    | fail)
   go_ret
   exact ⟨by rw [←HF.eq,←HK.eq];simp,HB2.out⟩
end Go.Proofs.YtgpigjoonhghhaaGreat

namespace Go.Proofs.YtgpigjoonhghhaaGreat
open Go.RowKit Go.Shelf
set_option linter.unusedVariables false
attribute [local go_sem] Oper.semAt_some
structure MidP (wr:World) (R:Nat) (p:Option Addr) (n c:Nat) (xs:List Int) (r:ResC) (pre:List RawP):Prop where
 ex : ∃ (at_:Nat) (kd ins:Int),Rdr wr R p n c at_ kd ins 0∧at_≤n∧0≤kd∧kd≤255 ∧
  (kd≠0∧ins=0∧preC (pre.map RawP.raw) (parseC (40 - pre.length) kd (xs.drop at_))=r∨kd=0∧(if n - at_≠0 then failC 2 else ⟨pre.map RawP.raw,ins,0⟩)=r)
def EndP (R:Nat) (p:Option Addr) (n c:Nat) (r:ResC) (pre:List RawP) (W:World):Prop :=
 ∃ at_ next ins:Int,Rdr W R p n c at_ next ins r.e∧(r.e=0→ins=r.n∧pre.map RawP.raw=r.l)∧pre.length≤40
theorem Rdr.set4 {w:World} {R:Nat} {p:Option Addr} {n c:Nat} {a b d e:Int} (h:Rdr w R p n c a b d e) (v:Int):Rdr (w.setCell ⟨R,4,none⟩ (.int .i64 v)) R p n c a b d v:=by
 obtain ⟨c0,c1,c2,c3,c4,fr⟩:=h
 exact ⟨by go_simp,by go_simp,by go_simp,by go_simp,by go_simp,fun j=>by rw [World.frozen?_setCell];exact fr j⟩
theorem end_fail {R:Nat} {p:Option Addr} {n c:Nat} {E:Int} {pre:List RawP} {W:World} {r:ResC} (a b d:Int) (h:Rdr W R p n c a b d E) (hr:failC E=r) (h0:E≠0) (hl:pre.length≤40):EndP R p n c r pre W:=by
 subst hr
 exact ⟨a,b,d,h,fun he=>absurd he h0,hl⟩
def encR (x:RawP):Array Value:=#[.agg #[.int .i64 x.k,.bool x.c,.slice x.p x.n x.m]]
set_option maxHeartbeats 3200000 in
set_option maxRecDepth 100000 in
theorem payloads_seq (w0 w:World) (R:Nat) (p:Option Addr) (n c:Nat) (xs:List Int) (first:Int) (r:ResC) (hx:Byt w0 p n c xs) (hn:n≤140737488351232) (hb:Below w0.heap.size w0 w) (hR:w0.heap.size≤R) (hr:Rdr w R p n c 0 first 0 0) (hf:0≤first∧first≤255) (hres:parseC 40 first xs=r) (m:Nat) (b0:Nat) (hb0:b0≤w.heap.size) :
  SeqSt Fence.wide (m+3) Tryz.prog 47 #[.pointer (some ⟨R,0,none⟩)] encR R (R+1) 40 (fun x U=>x.bod U b0) (EndP R p n c r) w:=by
 intro l J W hW hJ hY h0
 have hlt:=hr.lt
 have hrW:=hr.below hW hlt
 have hmid:MidP W R p n c xs r []:=by
  refine ⟨0,first,0,hrW,by omega,hf.1,hf.2,?_⟩
  by_cases h:first=0
  ·refine Or.inr ⟨h,?_⟩
   subst h
   rw [←hres,parseC_end,hx.len]
   simp
  ·refine Or.inl ⟨h,rfl,?_⟩
   simp only [List.map_nil,List.length_nil,Nat.sub_zero,List.drop_zero]
   rw [hres]
   exact preC_nil r (by rw [←hres];exact parse_form 40 first xs)
 have hBW:Below w0.heap.size w0 W:=hb.trans (hW.mono (by have:=hb.size;omega))
 have HM:=hidden hmid
 have HX:=hidden hx
 have HBW:=hidden hBW
 have HSW:=hidden hW.size
 have HJ:=hidden hJ
 have HY:=hidden hY
 have H0:=hidden h0
 have HL:=hidden hx.len
 clear hmid hx hb hr hf hres hW hJ hY h0 hBW hrW
 refine callsIn_of_wp Tryz.func47 rfl trivial ?_ rfl
 simp only [Tryz.ntmps47,List.size_toArray,List.length_cons,List.length_nil,Nat.reduceAdd,Nat.reduceSub,Array.replicate_succ,Array.replicate_zero,List.push_toArray,List.append_toArray,List.nil_append,List.cons_append]
 gi_wp2
 gi_loopw [4] (fun i wr=>∃ pre:List RawP,i=.int .i64 pre.length∧pre.length≤40∧J pre wr∧MidP wr R p n c xs r pre∧Below w0.heap.size w0 wr∧w.heap.size≤wr.heap.size) (fun i _=>41 - (intOf i).toNat)
 case atStart=>exact ⟨[],rfl,by simp,H0.out,HM.out,HBW.out,HSW.out⟩
 case round =>
  obtain ⟨pre,rfl,hpl,hj,⟨at_,kd,ins,hrd,hat,hk0,hk1,hcase⟩,hbl,hws⟩:=hrel
  have HRD:=hidden hrd
  have HBL:=hidden hbl
  have HJJ:=hidden hj
  have HXr:=hidden (HX.out.below hbl)
  obtain ⟨c0,c1,c2,c3,c4,fr⟩:=hrd
  clear hj hbl HM HBW H0
  rcases hcase with ⟨hkd,rfl,hpre⟩ | ⟨rfl,hpre⟩
  ·have hkd1:(kd != 0)=true:=by simpa using hkd
   have HP:=hidden hpre
   clear hpre
   by_cases h40:pre.length=40
   ·have hre:=round_many (kind:=kd) (xs:=xs) (a:=at_) (out:=pre.map RawP.raw) hkd
    rw [show 0=40 - pre.length by omega,HP.out] at hre
    have HRE:=hidden hre.symm
    have h40':(pre.length:Int)=40:=by omega
    clear hre hkd
    rw [h40']
    gi_wp2
    refine bodyPost_ret (results_none rfl _ _ _) rfl ?_
    exact ⟨⟨_,rfl⟩,pre,end_fail _ _ _ (HRD.out.set4 10) HRE.out (by omega) hpl,HJ.out _ _ _ HJJ.out (grown_set _ _ _ _)⟩
   obtain ⟨left,hleft⟩ : ∃ k,40 - pre.length=k+1:=⟨39 - pre.length,by omega⟩
   have h40':¬ (pre.length:Int)=40:=by omega
   have h40b:((pre.length:Int) == 40)=false:=by simpa using h40'
   rw [hleft] at HP
   by_cases h4:n - at_<4
   ·have hre:=round_short (left:=left) (kind:=kd) (xs:=xs) (a:=at_) (out:=pre.map RawP.raw) hkd (by rw [HL.out];exact h4)
    rw [HP.out] at hre
    have HRE:=hidden hre.symm
    have HC:=hidden (callsIn_wide (n:=m+2).2 (pay_short wr R p n c xs HXr.out hn at_ kd 0 0 HRD.out hat h4))
    clear hre hkd hleft h4
    gi_wp2_with (refine ⟨trivial,?_⟩;gi_at_call 65;(with_reducible refine (HC.out).mono ?_);rintro e w2 ⟨rfl,hb2⟩;have hrd2:=HRD.out.below hb2 HRD.out.lt;have hl2:=hrd2.lt;have hne2:R≠w2.heap.size:=(by omega);obtain ⟨d0,d1,d2,d3,d4,dr⟩:=hrd2;have dr4:=dr 4)
    refine bodyPost_ret (results_none rfl _ _ _) rfl ?_
    have hb2':=grown_of_below hb2 (some R)
    exact ⟨⟨_,rfl⟩,pre,end_fail _ _ _ (((HRD.out.below hb2 HRD.out.lt).set4 1).grown (World.grownBy_alloc _ _ none) (by simp)) HRE.out (by omega) hpl,HJ.out _ _ _ HJJ.out (grown_alloc_new (grown_trans hb2' (grown_set _ _ _ _)) _)⟩
   obtain ⟨L,hL⟩ : ∃ L,lenC (xs.drop at_)=L:=⟨_,rfl⟩
   have hlb:=lenC_bd (xs.drop at_) (rng_drop HX.out.rng at_)
   rw [hL] at hlb
   by_cases hbad:L<4∨(n:Int) - at_<L
   ·have hre:=round_wrong (left:=left) (kind:=kd) (xs:=xs) (a:=at_) (out:=pre.map RawP.raw) hkd (by rw [HL.out];omega) (by rw [HL.out,hL];omega)
    rw [HP.out] at hre
    have HRE:=hidden hre.symm
    have HC:=hidden (callsIn_wide (n:=m+2).2 (pay_wrong wr R p n c xs HXr.out hn at_ kd 0 0 HRD.out (by omega) L hL hbad))
    clear hre hkd hleft h4 hbad hL
    gi_wp2_with (refine ⟨trivial,?_⟩;gi_at_call 65;(with_reducible refine (HC.out).mono ?_);rintro e w2 ⟨rfl,hb2⟩;have hrd2:=HRD.out.below hb2 HRD.out.lt;have hl2:=hrd2.lt;have hne2:R≠w2.heap.size:=(by omega);obtain ⟨d0,d1,d2,d3,d4,dr⟩:=hrd2;have dr4:=dr 4)
    refine bodyPost_ret (results_none rfl _ _ _) rfl ?_
    have hb2':=grown_of_below hb2 (some R)
    exact ⟨⟨_,rfl⟩,pre,end_fail _ _ _ (((HRD.out.below hb2 HRD.out.lt).set4 2).grown (World.grownBy_alloc _ _ none) (by simp)) HRE.out (by omega) hpl,HJ.out _ _ _ HJJ.out (grown_alloc_new (grown_trans hb2' (grown_set _ _ _ _)) _)⟩
   obtain ⟨k,hk⟩:=Int.eq_ofNat_of_zero_le (show 0≤L - 4 by omega)
   have hhead:=headC_at kd xs at_
   have hmt:(lenC (xs.drop at_)).toNat - 4=k:=by rw [hL];omega
   rw [hmt] at hhead
   have hlt':(lenC (xs.drop at_)).toNat=k+4:=by rw [hL];omega
   have hlast:=fun hh=>round_last (left:=left) (kind:=kd) (xs:=xs) (a:=at_) (out:=pre.map RawP.raw) hkd (by rw [HL.out];omega) (by rw [HL.out,hL];omega) hh
   have hmore:=fun hh=>round_more (left:=left) (kind:=kd) (xs:=xs) (a:=at_) (out:=pre.map RawP.raw) hkd (by rw [HL.out];omega) (by rw [HL.out,hL];omega) hh
   rw [hhead,HP.out] at hlast hmore
   rw [hlt'] at hmore
   rw [HL.out,hL] at hlast
   have r0:=rng_getD HX.out.rng at_
   have hc:=callsIn_wide (n:=m+2).2 (pay_ok wr R p n c xs HXr.out hn at_ kd 0 0 HRD.out L hL k hk (by omega))
   unfold PayOk at hc
   generalize xs.getD at_ 0=x0 at *
   generalize xs.getD (at_+1) 0=x1 at *
   generalize hbs:(xs.drop (at_+4)).take k=bs at *
   have hfit:at_+4+k≤n:=by omega
   have HC:=hidden hc
   have HLAST:=hidden hlast
   have HMORE:=hidden hmore
   have HLEFT:=hidden hleft
   have HK:=hidden hk
   clear hhead hmt hlt' hlast hmore hL hk hleft hbad hc hbs
   gi_wp2_with (refine ⟨trivial,?_⟩;gi_at_call 65;(with_reducible refine (HC.out).mono ?_);rintro e w2 ⟨q,d,rfl,hbod,hrd2,hg2⟩;obtain ⟨fn,tmps,assign,body,hy,hRnd⟩:=HY.out pre ⟨kd,decide (128≤x1),q,k,d,bs⟩ _ (HJ.out _ _ _ (HJ.out _ _ _ HJJ.out hg2) (World.grownBy_alloc w2 (.cells #[.int .i64 kd,.bool (decide (128≤x1)),.slice q k d] 51) _)) ((hbod.mono (Nat.le_trans hb0 hws)).alloc (.cells #[.int .i64 kd,.bool (decide (128≤x1)),.slice q k d] 51)) (by omega);simp only [encR] at hy)
   have HB2:=hidden (HBL.out.grown hg2 HBL.out.size (by intro k hk;simp at hk;omega))
   have HRD2:=hidden hrd2
   have hl2:=hrd2.lt
   have hs2:=hg2.size
   clear hbod hrd2 hg2 HC c0 c1 c2 c3 c4 fr
   refine hRnd.mono ?_
   rintro e W3 ⟨rfl,hJ3,hk3⟩
   have hs3:=hk3.size
   simp at hs3
   have HS3:=hidden (show w.heap.size≤W3.heap.size by omega)
   have HJ3:=hidden hJ3
   have HRD3:=hidden ((HRD2.out.grown (World.grownBy_alloc w2 (.cells #[.int .i64 kd,.bool (decide (128≤x1)),.slice q k d] 51) none) (by simp)).below hk3 (Nat.lt_succ_self _))
   have HB3:=hidden ((HB2.out.alloc HB2.out.size (.cells #[.int .i64 kd,.bool (decide (128≤x1)),.slice q k d] 51)).trans (hk3.mono (by omega)))
   clear hJ3 hk3 hy hRnd HB2 HRD2
   gi_wp2
   go_roundw
   case rel =>
    have hk':=HK.out
    have hat':(at_:Int)+L=((at_+(k+4):Nat):Int):=by omega
    have hr3:=HRD3.out
    rw [hat'] at hr3
    refine ⟨pre++[⟨kd,decide (128≤x1),q,k,d,bs⟩],by simp,by simp;omega,HJ3.out,?_,HB3.out,HS3.out⟩
    have hmap:(pre++[(⟨kd,decide (128≤x1),q,k,d,bs⟩:RawP)]).map RawP.raw=pre.map RawP.raw++[⟨kd,decide (128≤x1),bs⟩]:=by simp [RawP.raw]
    by_cases hlk:lastK kd=true
    ·rw [if_pos hlk,if_pos hlk] at hr3
     refine ⟨at_+(k+4),0,x0,hr3,by omega,by omega,by omega,Or.inr ⟨rfl,?_⟩⟩
     rw [hmap,HLAST.out hlk]
     by_cases he:n - (at_+(k+4))=0
     ·rw [if_neg (by omega),if_neg (by omega)]
     ·rw [if_pos (by omega),if_pos (by omega)]
    ·rw [if_neg hlk,if_neg hlk] at hr3
     refine ⟨at_+(k+4),x0,0,hr3,by omega,r0.1,r0.2,?_⟩
     have hm:=HMORE.out hlk
     by_cases hz:x0=0
     ·refine Or.inr ⟨hz,?_⟩
      have hre:=round_end (left:=left) (kind:=x0) (xs:=xs) (a:=at_+(k+4)) (out:=pre.map RawP.raw++[⟨kd,decide (128≤x1),bs⟩]) hz
      rw [HL.out] at hre
      rw [hm,hre,hmap]
     ·refine Or.inl ⟨hz,rfl,?_⟩
      have:=HLEFT.out
      rw [hmap,List.length_append,List.length_singleton,show 40 - (pre.length+1)=left by omega]
      exact hm.symm
   case measure =>
    simp [intOf]
    omega
  ·by_cases he:at_=n
   ·subst he
    rw [if_neg (by omega)] at hpre
    subst hpre
    gi_wp2
    gi_quiet (fail)
    gi_wp2
    go_end0
    exact ⟨⟨_,rfl⟩,pre,⟨_,_,_,(HRD.out.grown (grown_drewN wr _ none) (by simp)),fun _=>⟨rfl,rfl⟩,hpl⟩,HJ.out _ _ _ HJJ.out (grown_drewN _ _ _)⟩
   ·rw [if_pos (by omega)] at hpre
    have HRE:=hidden hpre
    have hne:((at_:Int) != (n:Int))=true:=by simp;omega
    clear hpre he
    gi_wp2
    gi_quiet (fail)
    gi_wp2
    go_end0
    exact ⟨⟨_,rfl⟩,pre,end_fail _ _ _ ((HRD.out.grown (grown_drewN wr _ none) (by simp)).set4 2) HRE.out (by omega) hpl,HJ.out _ _ _ HJJ.out (grown_trans (grown_drewN _ _ _) (grown_set _ _ _ _))⟩
end Go.Proofs.YtgpigjoonhghhaaGreat
