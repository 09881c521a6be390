/-
  Drawn payloads, written by the document's Build.
  message.read told whole: the first error, or the message with what its payloads hold.
  message.Parse: whatever bytes, a message and no error, or an error that has a notification.
  message.build and message.Build of a message that was made: an error, and at most 8192 bytes.
  message.Build of a message that was made: at most 8220 bytes, and an error.
  message.build and message.Build of a message that was made, told whole.
-/
import Derived.Test.YtgpigjoonhghhaaGreatQZ31
import Derived.Test.YtgpigjoonhghhaaGreatQZ32
import Derived.Test.YtgpigjoonhghhaaGreatQZ5
import Derived.Test.YtgpigjoonhghhaaGreatQZ27
import Derived.Test.YtgpigjoonhghhaaGreatQZ29
import Derived.Test.YtgpigjoonhghhaaGreatQZ15
namespace Go.Proofs.YtgpigjoonhghhaaGreat
open Go.RowKit
set_option linter.unusedVariables false
set_option linter.unusedSimpArgs false
theorem hk_rng (t:Int) (h:Kind12 t):1≤t∧t≤255:=by unfold Kind12 at h;omega
theorem vld_fit (x:Pv) (C:Pc) (hn:NumOk x) (hv:Vld x C) (hk:Kind12 x.t):Fit x:=by
  obtain ⟨n1,n2,n3,n4⟩:=hn
  refine ⟨hk_rng x.t hk,fun e=>?_,fun e=>?_,fun e=>?_,fun e=>?_,fun e=>?_⟩
  · have:=(vld34 e).1 hv
    omega
  · rcases e with e | e
    · have:=(vld35 e).1 hv
      omega
    · have:=(vld36 e).1 hv
      omega
  · have:=(vld39 e).1 hv
    omega
  · have:=(vld41 e).1 hv
    omega
  · have:=(vld42 e).1 hv
    omega
theorem vld_rbody (x:Pv) (C:Pc) (w:World) (h:PvRd w x C) (hn:NumOk x) (hv:Vld x C) (hk:Kind12 x.t):rbodyA x C=buildB x C:=by
  have hb:=(vld_build x C w h hn hv hk).1
  unfold rbodyA
  unfold buildB at hb ⊢
  unfold rbodyB
  rcases hk with e | e | e | e | e | e | e | e | e | e | e | e<;>rw [e] at hb ⊢<;>simp only [reduceIte,Int.reduceEq,or_self,or_true,true_or,or_false,false_or] at hb ⊢
  · rw [hb]
  · rw [hb]
  · rw [hb]
  · rw [hb]
  · rw [hb]
  · have v:=(vld41 e).1 hv
    rw [if_neg (by omega),hb,if_neg]
    unfold widthN
    rcases v with ⟨v1,v2⟩ | ⟨v1,v2⟩
    · rw [v1,v2];decide
    · rw [v1,v2];decide
  · have v:=(vld42 e).1 hv
    rcases v with ⟨v1,v2⟩ | ⟨v1,v2 | v2⟩
    · rw [v1,v2];decide
    · rw [v1,v2];decide
    · rw [v1,v2];decide
theorem vld_ds (x:Pv) (C:Pc) (w:World) (h:PvRd w x C) (hv:Vld x C) (e:x.t=42):x.ds.n≤1000:=by
  have hdl:=h.ds.len
  have v:=(vld42 e).1 hv
  rcases v with ⟨v1,v2⟩ | ⟨v1,v2 | v2⟩
  · rw [v2] at hdl;simp at hdl;omega
  · have:=congrArg List.length v2;simp at this;omega
  · have:=congrArg List.length v2;simp at this;omega
end Go.Proofs.YtgpigjoonhghhaaGreat

namespace Go.Proofs.YtgpigjoonhghhaaGreat
open Go.RowKit
set_option linter.unusedVariables false
set_option linter.unusedSimpArgs false
def RdP (r:Raw) (y:Pv) (W:World):Prop:=NoteOk W y∧∃ C,PvRk W y C∧RdAs r.k r.b y C
structure RSx (w:World) (g M:Nat) (i r nx x f m:Int) (v:Value) (Y:List (Pv × Raw)) (wr:World):Prop where
  bel:Below w.heap.size w wr
  res:MIn wr g 0 0 0 0 0 0 (.slice none 0 0)
  msg:MIn wr M i r nx x f m v
  row:RowG KPv NTv wr (M+1) v (Y.map Prod.fst)
  el : ∀ y∈Y,y.1.t=y.2.k∧ElemP (RdP y.2 y.1) wr (M+1) v
  ge:M+1≤wr.heap.size
theorem RSx.below {w:World} {g M:Nat} {i r nx x f m:Int} {v:Value} {Y:List (Pv × Raw)} {wr wy:World} (h:RSx w g M i r nx x f m v Y wr) (hb:Below wr.heap.size wr wy):RSx w g M i r nx x f m v Y wy :=
  ⟨h.bel.trans (hb.mono h.bel.size),h.res.below hb,h.msg.below hb,h.row.below hb,fun y hy=>⟨(h.el y hy).1,(h.el y hy).2.below hb⟩,Nat.le_trans h.ge hb.size⟩
theorem RSx.app {w:World} {g M:Nat} {i r nx x f m:Int} {v v':Value} {Y:List (Pv × Raw)} {y:Pv × Raw} {wr wy:World} (h:RSx w g M i r nx x f m v Y wr) (ht:y.1.t=y.2.k) (he:ElemP (RdP y.2 y.1) wr (M+1) v) (hrow:RowG KPv NTv wy (M+1) v' (Y.map Prod.fst++[y.1])) (hg:wr.grownBy wy v.ownBlock) (hq : ∀ q,v'.ownBlock=some q→v.ownBlock=some q∨wr.heap.size≤q) (hw:w.heap.size≤g) (hgM:g<M) :
    RSx w g M i r nx x f m v' (Y++[y]) (wy.setCell ⟨M,6,none⟩ v'):=by
  have hlt:=h.row.lt
  have hs:=grown_set wy M 6 v'
  refine ⟨(h.bel.grown hg h.bel.size (fun q e=>by have:=hlt q e;omega)).setCell (show w.heap.size≤M by omega) _,?_,?_,?_,fun z hz=>?_,Nat.le_trans h.ge (Nat.le_trans hg.size hs.size)⟩
  · exact (h.res.grown hg (fun e=>by have:=hlt _ e.symm;omega)).grown hs (by simp;omega)
  · exact (h.msg.grown hg (fun e=>by have:=hlt _ e.symm;omega)).putS _
  · rw [List.map_append]
    exact hrow.low hs (by omega)
  · rcases List.mem_append.1 hz with hz | hz
    · exact ⟨(h.el z hz).1,((h.el z hz).2.app hg hq).step hs (fun q e=>by cases e;exact .inl (by omega))⟩
    · rw [List.mem_singleton.1 hz]
      exact ⟨ht,(he.app hg hq).step hs (fun q e=>by cases e;exact .inl (by omega))⟩
theorem RSx.start (w:World) (i r nx x f m:Int):RSx w (w.heap.size+1) (w.heap.size+1+1) i r nx x f m (.slice none 0 0) [] (((w.alloc (.cells #[.int .u64 i,.int .u64 r,.int .i64 nx,.int .i64 x,.int .i64 f,.int .u32 m] 29)).alloc (.cells #[.int .u64 0,.int .u64 0,.int .i64 0,.int .i64 0,.int .i64 0,.int .u32 0,.slice none 0 0] 32)).alloc (.cells #[.int .u64 i,.int .u64 r,.int .i64 nx,.int .i64 x,.int .i64 f,.int .u32 m,.slice none 0 0] 32)):=by
  have h:=RSt.start w i r nx x f m
  exact ⟨h.bel,h.res,h.msg,h.row,fun y hy=>(by cases hy),h.ge⟩
def ReadX (w:World) (i r nx x f m:Int) (rs:List Raw) (e:Ending) (w':World):Prop :=
  Below w.heap.size w w' ∧
  ((∃ E,E≠0∧Rp0 E∧e=.returned (.tuple #[.agg #[.int .u64 0,.int .u64 0,.int .i64 0,.int .i64 0,.int .i64 0,.int .u32 0,.slice none 0 0],.int .i64 E]) ∧
      ((errR rs≠0∧E=errR rs)∨(errR rs=0∧∃ Y:List (Pv × Raw),Y.map Prod.snd=knownR rs∧(∀ y∈Y,y.1.t=y.2.k∧∀ W,Kpt w' W w.heap.size→RdP y.2 y.1 W)∧E=checkM x f (Y.map Prod.fst)))) ∨
   (errR rs=0∧∃ (Y:List (Pv × Raw)) (q:Option Addr) (d:Nat),e=.returned (.tuple #[.agg #[.int .u64 i,.int .u64 r,.int .i64 nx,.int .i64 x,.int .i64 f,.int .u32 m,.slice q Y.length d],.int .i64 0]) ∧
      (∀ W,Kpt w' W w.heap.size→RdG KPv DPv W q Y.length d (Y.map Prod.fst))∧Y.map Prod.snd=knownR rs∧(∀ y∈Y,y.1.t=y.2.k∧∀ W,Kpt w' W w.heap.size→RdP y.2 y.1 W)∧checkM x f (Y.map Prod.fst)=0))
theorem rdp_gd {t:Int} {c:Bool} {xs:List Int} {base:Nat} {w':World} {x:Pv} (h:(gdK t xs).ok base w' x) (hx:x.t=t) (ht:0≤t∧t≤255) (hr : ∀ z∈xs,0≤z∧z≤255) (hl:xs.length≤1000000) : ∀ W,Kpt w' W base→RdP ⟨t,c,xs⟩ x W:=by
  intro W hW
  refine ⟨note_gd h hx ht hr hl W hW,?_⟩
  obtain ⟨C,h1,h2⟩:=h
  subst hx
  exact ⟨C,h1 W hW,h2⟩
theorem parse_rdp (k:Int) (cr:Bool) (p:Option Addr) (n c:Nat) (xs:List Int) (w:World) (h:Byt w p n c xs) (hk:0≤k∧k≤255) (hn:n≤100000) :
    Calls Tryz.prog 50 #[.agg #[.int .i64 k,.bool cr,.slice p n c]] w fun e w'=>∃ x:Pv,e=.returned (.tuple #[(.agg #[.int .i64 x.t,.slice x.pr.p x.pr.n x.pr.c,.int .i64 x.eg,.slice x.ed.p x.ed.n x.ed.c,.int .i64 x.ik,.slice x.id.p x.id.n x.id.c,.int .i64 x.am,.slice x.ad.p x.ad.n x.ad.c,.int .i64 x.np,.slice x.ns.p x.ns.n x.ns.c,.int .i64 x.nt,.slice x.nd.p x.nd.n x.nd.c,.int .i64 x.dp,.slice x.ds.p x.ds.n x.ds.c,.slice x.se.p x.se.n x.se.c,.slice x.da.p x.da.n x.da.c]),.int .i64 (parseE k xs)])∧Below w.heap.size w w'∧(parseE k xs=0→x.t=k∧∀ W,Kpt w' W w.heap.size→RdP ⟨k,cr,xs⟩ x W):=by
  refine (pk_all k p n c xs cr w h (by omega)).mono ?_
  rintro e w' ⟨x,he,hb,hg⟩
  refine ⟨x,he,hb,fun h0=>?_⟩
  rcases hg with ⟨-,ht,hok⟩ | ⟨h9,-⟩
  · exact ⟨ht,rdp_gd hok ht hk h.rng (by rw [h.len];omega)⟩
  · exact absurd h0 h9
theorem knownR_pos {r:Raw} {l:List Raw} (h:knownK r.k=true):knownR (r :: l)=r :: knownR l:=List.filter_cons_of_pos h
theorem knownR_neg {r:Raw} {l:List Raw} (h:knownK r.k=false):knownR (r :: l)=knownR l:=List.filter_cons_of_neg (by rw [h];decide)
theorem kptAll (w:World) (g:Nat) {base:Nat} (hb:g<base) (i r nx x f m:Int) (v:Value) :
    Kpt w (((((((w.setCell ⟨g,0,none⟩ (.int .u64 i)).setCell ⟨g,1,none⟩ (.int .u64 r)).setCell ⟨g,2,none⟩ (.int .i64 nx)).setCell ⟨g,3,none⟩ (.int .i64 x)).setCell ⟨g,4,none⟩ (.int .i64 f)).setCell ⟨g,5,none⟩ (.int .u32 m)).setCell ⟨g,6,none⟩ v) base :=
  ((((((Kpt.low (grown_set w g 0 _) hb).trans (Kpt.low (grown_set _ g 1 _) hb)).trans (Kpt.low (grown_set _ g 2 _) hb)).trans (Kpt.low (grown_set _ g 3 _) hb)).trans (Kpt.low (grown_set _ g 4 _) hb)).trans (Kpt.low (grown_set _ g 5 _) hb)).trans (Kpt.low (grown_set _ g 6 _) hb)
set_option maxHeartbeats 6400000 in
set_option maxRecDepth 100000 in
theorem mreadX (i r nx x f m:Int) (hx:IntR x) (p:Option Addr) (n c:Nat) (l:List RawP) (w:World) (h:RdR w p n c l) (h40:n≤40) (hok : ∀ y∈l,RawOk 100000 y.raw) :
    Calls Tryz.prog 25 #[.agg #[.int .u64 i,.int .u64 r,.int .i64 nx,.int .i64 x,.int .i64 f,.int .u32 m],.slice p n c] w (ReadX w i r nx x f m (l.map RawP.raw)):=by
  have hlen:=h.len
  have HX:=hidden hx
  have HOK:=hidden hok
  have HS0:=hidden (RSx.start w i r nx x f m)
  obtain ⟨R0,hR0⟩ : ∃ E,errR (l.map RawP.raw)=E:=⟨_,rfl⟩
  have HR0:=hidden hR0
  obtain ⟨K0,hK0⟩ : ∃ E,knownR (l.map RawP.raw)=E:=⟨_,rfl⟩
  have HK0:=hidden hK0
  have HR:=hidden h
  clear h hok hx hR0 hK0
  go_enter Tryz.func25,Tryz.ntmps25
  go_wp2_with fail
  generalize World.alloc (World.alloc (World.alloc w _) _) _=w0 at *
  go_loopw [16] (fun c wr=>∃ (j:Nat) (v:Value) (L:List (Pv × Raw)),j≤n∧c=.int .i64 (j:Int)∧L.length≤j∧RSx w (w.heap.size+1) (w.heap.size+1+1) i r nx x f m v L wr∧Is (errR ((l.map RawP.raw).drop j)) R0∧Is (L.map Prod.snd++knownR ((l.map RawP.raw).drop j)) K0) (fun c _=>n - (intOf c).toNat)
  case atStart=>exact ⟨0,_,[],by omega,rfl,Nat.le_refl _,HS0.out,⟨HR0.out⟩,⟨HK0.out⟩⟩
  case round =>
    clear HS0
    obtain ⟨j,v,L,hj,rfl,hL,hst,hIE,hIK⟩:=hrel
    have HS:=hidden hst
    obtain ⟨pv,cv,rfl⟩:=hst.row.form (show (L.map Prod.fst).length=L.length from List.length_map ..)
    clear hst
    by_cases hjn:j<n
    · have hjI:(j:Int)<(n:Int):=by omega
      have hjI0:(0:Int)≤(j:Int):=by omega
      obtain ⟨g,rfl,e0,e1,e2,hby⟩:=(HR.out.below HS.out.bel).elem j (by omega)
      have hro:=HOK.out _ (List.getElem_mem (show j<l.length by omega))
      have hdj:(l.map RawP.raw).drop j=(l[j]'(by omega)).raw :: (l.map RawP.raw).drop (j+1):=by
        rw [List.drop_eq_getElem_cons (by rw [List.length_map];omega),List.getElem_map]
      have hE1:=hIE.eq
      have hK1:=hIK.eq
      rw [hdj] at hE1 hK1
      clear hdj hIE hIK
      generalize l[j]'(by omega)=y at *
      obtain ⟨k,cr,bp,bn,bc,bs⟩:=y
      simp only at e0 e1 e2 hby
      obtain ⟨hk0,hk1,hbn,hbr⟩:=hro
      simp only [RawP.raw] at hk0 hk1 hbn hbr
      have hnb:bn≤100000:=by rw [←hby.len];exact hbn
      have HPA:=hidden (fun W (hW:Below wr.heap.size wr W)=>parse_rdp k cr bp bn bc bs W (hby.below hW) ⟨hk0,hk1⟩ hnb)
      have HPE:=hidden (rp_parseE k bs)
      have HKN:=hidden (fun W=>known_any k W)
      have HE1:=hidden (show (if knownK k=true then (if parseE k bs≠0 then parseE k bs else errR ((l.map RawP.raw).drop (j+1))) else if cr=true then 6 else errR ((l.map RawP.raw).drop (j+1)))=R0 from hE1)
      have HK1:=hidden hK1
      clear hE1 hK1
      generalize parseE k bs=E at *
      clear hby hbn hbr hnb
      go_upto_region 5 with fail
      have r0:(wr.alloc (.cells #[.int .i64 k,.bool cr,.slice bp bn bc] 51)).cell? ⟨wr.heap.size,0,none⟩=some (.int .i64 k):=by go_simp
      have r1:(wr.alloc (.cells #[.int .i64 k,.bool cr,.slice bp bn bc] 51)).cell? ⟨wr.heap.size,1,none⟩=some (.bool cr):=by go_simp
      have r2:(wr.alloc (.cells #[.int .i64 k,.bool cr,.slice bp bn bc] 51)).cell? ⟨wr.heap.size,2,none⟩=some (.slice bp bn bc):=by go_simp
      have hal:=(Below.refl wr.heap.size wr).alloc (Nat.le_refl _) (.cells #[.int .i64 k,.bool cr,.slice bp bn bc] 51)
      have HS5:=hidden (HS.out.below hal)
      have HBX:=hidden hal
      generalize World.alloc wr _=w5 at *
      generalize wr.heap.size=G5 at *
      obtain ⟨kn,hkn⟩ : ∃ b,knownK k=b:=⟨_,rfl⟩
      rw [hkn] at HKN HE1
      have HKW:=hidden hkn
      clear hal HS e0 e1 e2 hkn
      cases kn with
      | true =>
        by_cases hE:E=0
        · subst hE
          go_upto_region 9 with (first
            | (go_at_call 49;(with_reducible refine (HKN.out _).mono ?_);rintro e w6 ⟨rfl,rfl⟩)
            | (go_at_call 50;go_loud ((with_reducible refine (HPA.out _ HBX.out).mono ?_);rintro e w7 ⟨x',rfl,hb7,hnt⟩;have HS7:=hidden (HS5.out.below hb7);have hnt2:=(show x'.t=k∧∀ W,Kpt w7 W w5.heap.size→RdP ⟨k,cr,bs⟩ x' W by first | exact hnt trivial | exact hnt rfl);have HXT:=hidden hnt2.1;have HEL:=hidden (show ElemP (RdP ⟨k,cr,bs⟩ x') w7 (w.heap.size+1+1+1) (.slice pv L.length cv) from ElemP.new hnt2.2 HS5.out.ge (fun q e=>(HS5.out.row.lt q e).2));clear hb7 hnt hnt2 HPA))
            | fail)
          have HPI:=hidden (PvIn.new w7 x' 49)
          have hal:=(Below.refl w7.heap.size w7).alloc (Nat.le_refl _) (.cells #[.int .i64 x'.t,.slice x'.pr.p x'.pr.n x'.pr.c,.int .i64 x'.eg,.slice x'.ed.p x'.ed.n x'.ed.c,.int .i64 x'.ik,.slice x'.id.p x'.id.n x'.id.c,.int .i64 x'.am,.slice x'.ad.p x'.ad.n x'.ad.c,.int .i64 x'.np,.slice x'.ns.p x'.ns.n x'.ns.c,.int .i64 x'.nt,.slice x'.nd.p x'.nd.n x'.nd.c,.int .i64 x'.dp,.slice x'.ds.p x'.ds.n x'.ds.c,.slice x'.se.p x'.se.n x'.se.c,.slice x'.da.p x'.da.n x'.da.c] 49)
          have HS8:=hidden (HS7.out.below hal)
          have HEL8:=hidden (HEL.out.below hal)
          generalize World.alloc w7 _=w8 at *
          generalize w7.heap.size=G7 at *
          clear hal HS7 HEL HS5 HBX r0 r1 r2
          obtain ⟨c0,c1,c2,c3,c4,c5,c6,c7,c8,c9,c10,c11,c12,c13,c14,c15,-⟩:=HPI.out
          have b6:=HS8.out.msg.c6
          clear HPI
          go_upto_region 12 with (first
            | (at_builtin;go_loud (refine wpList_append_w knownPv (by simp [NTv]) _ rfl _ _ rfl (w.heap.size+1+1+1) _ (L.map Prod.fst) rfl (HS8.out.row.alloc _) _ 1 1 [x'] rfl (by omega) (srcPv w8 x' _) (fun x hx=>trivial) (by rw [List.length_map];unfold maxLen;omega) (by rw [List.length_map];omega) (by have:=HS8.out.ge;simp;omega) ?_;intro v10 w10 HR10 HG10 HQ10;obtain ⟨pz,cz,rfl⟩:=HR10.out.form (n:=L.length+1) (by simp);have hal:=(Below.refl w8.heap.size w8).alloc (Nat.le_refl _) (.cells #[.int .i64 x'.t,.slice x'.pr.p x'.pr.n x'.pr.c,.int .i64 x'.eg,.slice x'.ed.p x'.ed.n x'.ed.c,.int .i64 x'.ik,.slice x'.id.p x'.id.n x'.id.c,.int .i64 x'.am,.slice x'.ad.p x'.ad.n x'.ad.c,.int .i64 x'.np,.slice x'.ns.p x'.ns.n x'.ns.c,.int .i64 x'.nt,.slice x'.nd.p x'.nd.n x'.nd.c,.int .i64 x'.dp,.slice x'.ds.p x'.ds.n x'.ds.c,.slice x'.se.p x'.se.n x'.se.c,.slice x'.da.p x'.da.n x'.da.c] 49);have HS9:=hidden (HS8.out.below hal);have HM10:=hidden (HS9.out.msg.grown HG10.out (fun e=>by have:=(HS9.out.row.lt _ e.symm).1;omega));have HS10:=hidden (HS9.out.app (y:=(x',⟨k,cr,bs⟩)) HXT.out (HEL8.out.below hal) HR10.out HG10.out (by first | exact HQ10.out | (rw [World.size_alloc];exact HQ10.out)) (by omega) (by omega));have b60:=HM10.out.c6;have bf0:=HM10.out.fr 6;clear hal HS8 HS9 HEL8 HR10 HG10 HQ10 HM10 b6 c0 c1 c2 c3 c4 c5 c6 c7 c8 c9 c10 c11 c12 c13 c14 c15))
            | fail)
          clear b60 bf0
          go_wp2_with fail
          go_roundw
          case rel=>exact ⟨j+1,_,L++[(x',⟨k,cr,bs⟩)],by omega,by go_num,by simp;omega,HS10.out,⟨by have h9:=HE1.out;simpa using h9⟩,⟨by
            have h9:=HK1.out
            rw [←h9,List.map_append,List.append_assoc]
            congr 1
            exact (knownR_pos (r:=⟨k,cr,bs⟩) HKW.out).symm⟩⟩
          case measure=>simp [intOf]<;>omega
        · have hE2:(E != 0)=true:=by simpa using hE
          go_upto_region 9 with (first
            | (go_at_call 49;(with_reducible refine (HKN.out _).mono ?_);rintro e w6 ⟨rfl,rfl⟩)
            | (go_at_call 50;(with_reducible refine (HPA.out _ HBX.out).mono ?_);rintro e w7 ⟨x',rfl,hb7,hnt⟩;have HS7:=hidden (HS5.out.below hb7);clear hb7 hnt HPA)
            | fail)
          have hal:=(Below.refl w7.heap.size w7).alloc (Nat.le_refl _) (.cells #[.int .i64 x'.t,.slice x'.pr.p x'.pr.n x'.pr.c,.int .i64 x'.eg,.slice x'.ed.p x'.ed.n x'.ed.c,.int .i64 x'.ik,.slice x'.id.p x'.id.n x'.id.c,.int .i64 x'.am,.slice x'.ad.p x'.ad.n x'.ad.c,.int .i64 x'.np,.slice x'.ns.p x'.ns.n x'.ns.c,.int .i64 x'.nt,.slice x'.nd.p x'.nd.n x'.nd.c,.int .i64 x'.dp,.slice x'.ds.p x'.ds.n x'.ds.c,.slice x'.se.p x'.se.n x'.se.c,.slice x'.da.p x'.da.n x'.da.c] 49)
          have HS8:=hidden (HS7.out.below hal)
          generalize World.alloc w7 _=w8 at *
          generalize w7.heap.size=G7 at *
          clear hal HS7 HS5 HBX r0 r1 r2
          obtain ⟨a0,a1,a2,a3,a4,a5,a6,af⟩:=HS8.out.res
          have f0:=af 0
          have f1:=af 1
          have f2:=af 2
          have f3:=af 3
          have f4:=af 4
          have f5:=af 5
          have f6:=af 6
          clear af
          go_wp2_with fail
          have hR:E=R0:=by
            have h9:=HE1.out
            simpa [hE] using h9
          exact ret_msg2 (g:=w.heap.size+1) rfl rfl rfl rfl (HS8.out.res.setAll 0 0 0 0 0 0 (.slice none 0 0)) ⟨below_setAll HS8.out.bel (by omega) _ _ _ _ _ _ _,Or.inl ⟨E,hE,HPE.out,rfl,Or.inl ⟨by rw [HR0.out,←hR];exact hE,by rw [HR0.out];exact hR⟩⟩⟩
      | false =>
        cases cr with
        | true =>
          obtain ⟨a0,a1,a2,a3,a4,a5,a6,af⟩:=HS5.out.res
          have f0:=af 0
          have f1:=af 1
          have f2:=af 2
          have f3:=af 3
          have f4:=af 4
          have f5:=af 5
          have f6:=af 6
          clear af
          go_wp2_with (first
            | (go_at_call 49;(with_reducible refine (HKN.out _).mono ?_);rintro e w6 ⟨rfl,rfl⟩)
            | fail)
          have hR:(6:Int)=R0:=by
            have h9:=HE1.out
            simpa using h9
          exact ret_msg2 (g:=w.heap.size+1) rfl rfl rfl rfl (HS5.out.res.setAll 0 0 0 0 0 0 (.slice none 0 0)) ⟨below_setAll HS5.out.bel (by omega) _ _ _ _ _ _ _,Or.inl ⟨6,by decide,by decide,rfl,Or.inl ⟨by rw [HR0.out,←hR];decide,by rw [HR0.out];exact hR⟩⟩⟩
        | false =>
          go_wp2_with (first
            | (go_at_call 49;(with_reducible refine (HKN.out _).mono ?_);rintro e w6 ⟨rfl,rfl⟩)
            | fail)
          go_roundw
          case rel=>exact ⟨j+1,_,L,by omega,by go_num,by omega,HS5.out,⟨by have h9:=HE1.out;simpa using h9⟩,⟨by
            have h9:=HK1.out
            rw [←h9]
            congr 1
            exact (knownR_neg (r:=⟨k,false,bs⟩) HKW.out).symm⟩⟩
          case measure=>simp [intOf]<;>omega
    · have hjn2:¬ (j:Int)<(n:Int):=by omega
      have hjn3:j=n:=by omega
      have hR0z:R0=0:=by
        have h9:=hIE.eq
        rw [List.drop_of_length_le (by rw [List.length_map];omega)] at h9
        exact h9.symm
      have hK0z:L.map Prod.snd=K0:=by
        have h9:=hIK.eq
        rw [List.drop_of_length_le (by rw [List.length_map];omega)] at h9
        rw [←h9]
        show _=_++[]
        rw [List.append_nil]
      have HRZ:=hidden hR0z
      have HKZ:=hidden hK0z
      clear hR0z hK0z hIE hIK
      have hrd:=rdMsg HS.out.row (show (L.map Prod.fst).length=L.length from List.length_map ..) (Kpt.refl _ _) (fun y hy=>by
        obtain ⟨z,hz,rfl⟩:=List.mem_map.1 hy
        exact ((HS.out.el z hz).2.out (Kpt.refl _ _)).1)
      have HCK:=hidden (check_any i r nx x f m pv L.length cv (L.map Prod.fst) wr hrd (by omega) HX.out)
      have HPE:=hidden (rp_checkM x f (L.map Prod.fst))
      obtain ⟨E,hEE⟩ : ∃ E,checkM x f (L.map Prod.fst)=E:=⟨_,rfl⟩
      have HEE:=hidden hEE
      rw [hEE] at HCK HPE
      clear hEE
      obtain ⟨b0,b1,b2,b3,b4,b5,b6,-⟩:=HS.out.msg
      clear hrd
      go_upto_region 14 with (first
        | (go_at_call 13;(with_reducible refine (HCK.out).mono ?_);rintro e w7 ⟨rfl,hb7⟩;have HS7:=hidden (HS.out.below hb7);clear hb7 HCK)
        | fail)
      clear b0 b1 b2 b3 b4 b5 b6 HS
      by_cases hE:E=0
      · subst hE
        obtain ⟨b0,b1,b2,b3,b4,b5,b6,-⟩:=HS7.out.msg
        obtain ⟨a0,a1,a2,a3,a4,a5,a6,af⟩:=HS7.out.res
        have f0:=af 0
        have f1:=af 1
        have f2:=af 2
        have f3:=af 3
        have f4:=af 4
        have f5:=af 5
        have f6:=af 6
        clear af
        go_wp2_with fail
        exact ret_msg2 (g:=w.heap.size+1) rfl rfl rfl rfl (HS7.out.res.setAll i r nx x f m (.slice pv L.length cv)) ⟨below_setAll HS7.out.bel (by omega) _ _ _ _ _ _ _,Or.inr ⟨by rw [HR0.out];exact HRZ.out,L,pv,cv,rfl,fun W hW=>rdMsg (HS7.out.row) (show (L.map Prod.fst).length=L.length from List.length_map ..) ((kptAll _ _ (by omega) _ _ _ _ _ _ _).trans (hW.mono (by omega))) (fun y hy=>by
          obtain ⟨z,hz,rfl⟩:=List.mem_map.1 hy
          exact ((HS7.out.el z hz).2.out ((kptAll _ _ (by omega) _ _ _ _ _ _ _).trans (hW.mono (by omega)))).1),by rw [HK0.out];exact HKZ.out,fun y hy=>⟨(HS7.out.el y hy).1,fun W hW=>(HS7.out.el y hy).2.out ((kptAll _ _ (by omega) _ _ _ _ _ _ _).trans (hW.mono (by omega)))⟩,HEE.out⟩⟩
      · have hE2:(E != 0)=true:=by simpa using hE
        obtain ⟨a0,a1,a2,a3,a4,a5,a6,af⟩:=HS7.out.res
        have f0:=af 0
        have f1:=af 1
        have f2:=af 2
        have f3:=af 3
        have f4:=af 4
        have f5:=af 5
        have f6:=af 6
        clear af
        go_wp2_with fail
        exact ret_msg2 (g:=w.heap.size+1) rfl rfl rfl rfl (HS7.out.res.setAll 0 0 0 0 0 0 (.slice none 0 0)) ⟨below_setAll HS7.out.bel (by omega) _ _ _ _ _ _ _,Or.inl ⟨E,hE,HPE.out,rfl,Or.inr ⟨by rw [HR0.out];exact HRZ.out,L,by rw [HK0.out];exact HKZ.out,fun y hy=>⟨(HS7.out.el y hy).1,fun W hW=>(HS7.out.el y hy).2.out ((kptAll _ _ (by omega) _ _ _ _ _ _ _).trans (hW.mono (by omega)))⟩,HEE.out.symm⟩⟩⟩
end Go.Proofs.YtgpigjoonhghhaaGreat

namespace Go.Proofs.YtgpigjoonhghhaaGreat
open Go.RowKit
set_option linter.unusedVariables false
set_option linter.unusedSimpArgs false
section
variable {P:Program} {o:Oper} {a:Act} {w:World}
theorem fl_call1 {ops:Array Oper} {K:Act→World→Prop} {Q:Exit→Act→World→Prop} {f:FuncId} {args:Array Value} {R:Value→World→Prop} (hg:o.guard=none) (he:(execOp a.eval o).run P w=.ok (.enter f args) w)
    (hc:Calls P f args w fun e w'=>∃ v,e=.returned v∧R v w') (h : ∀ v w',R v w'→K (a.put o.dst v) w') :
    if Region.wanted o (yielded ops a.tmps)=true then Oper.wp P o a w K Q else K (a.put o.dst undef) w:=by
  rw [if_pos (by simp [Region.wanted,hg])]
  unfold Oper.wp
  rw [he,Oper.upon_enter]
  refine hc.mono ?_
  rintro e w' ⟨v,rfl,hv⟩
  exact h v w' hv
end
end Go.Proofs.YtgpigjoonhghhaaGreat

namespace Go.Proofs.YtgpigjoonhghhaaGreat
open Go.RowKit
set_option linter.unusedVariables false
set_option linter.unusedSimpArgs false
def KRw:KindR RawP where
  e:=51
  k:=3
  cs:=RawP.cells
  len _:=rfl
  one x u hu:=by
    simp [RawP.cells] at hu
    rcases hu with rfl | rfl | rfl<;>rfl
  pos:=by decide
def NRw:NestR RawP where
  ts:=[]
  ok _ _ _:=True
  keep _ _ _:=trivial
  mono _ _:=trivial
theorem row_raw (l:List RawP):KRw.row l=rowC l:=by
  induction l with
  | nil=>rfl
  | cons x l ih=>rw [KindR.row_cons,ih];rfl
theorem knownRw:KnownR Tryz.prog KRw 34 40:=by
  refine ⟨Tryz.underlying34,?_⟩
  obtain ⟨i0,hi,hz0,hz1,hz2⟩:=info_parts Tryz.infoRaw
  exact ⟨i0,_,hi,hz0,hz1,hz2,rfl⟩
theorem rdr_of {w:World} {base:Nat} {v:Value} {l:List RawP} {n:Nat} (h:RowG KRw NRw w base v l) (hn:l.length=n) (hb:BodR w l) : ∃ p c,v=.slice p n c∧RdR w p n c l:=by
  have ho:OwnRw w base 51 v l:=by
    have:=h.own
    rw [row_raw] at this
    exact this
  subst hn
  rcases ho.2 with ⟨rfl,h0⟩ | ⟨g,cap,cur,rfl,hg,hh,hnc,hm,hs,ht⟩
  · exact ⟨none,0,by rw [h0],rfl,by omega,by unfold maxLen;omega,fun h=>by omega,hb⟩
  · refine ⟨_,_,rfl,rfl,hnc,hm,fun h0=>⟨g,rfl,fun j u hj=>?_⟩,hb⟩
    have:=World.ownsRow.cells ho (g:=g) rfl j u hj
    rw [WideShapes.add_plain,Nat.zero_add] at this
    exact this
structure BSt (w:World) (v:Value) (l:List RawP) (wr:World):Prop where
  bel:Below w.heap.size w wr
  row:RowG KRw NRw wr w.heap.size v l
  el : ∀ y∈l,ElemP (fun W=>Byt W y.p y.n y.m y.b) wr w.heap.size v
theorem BSt.start (w:World):BSt w (.slice none 0 0) [] w:=⟨Below.refl _ _,RowG.nil _ _ _ _,fun y hy=>by cases hy⟩
theorem BSt.below {w:World} {v:Value} {l:List RawP} {wr wy:World} (h:BSt w v l wr) (hb:Below wr.heap.size wr wy):BSt w v l wy :=
  ⟨h.bel.trans (hb.mono h.bel.size),h.row.below hb,fun y hy=>(h.el y hy).below hb⟩
theorem BSt.app {w:World} {v v':Value} {l:List RawP} {y:RawP} {wr wy:World} (h:BSt w v l wr) (he:ElemP (fun W=>Byt W y.p y.n y.m y.b) wr w.heap.size v) (hrow:RowG KRw NRw wy w.heap.size v' (l++[y])) (hg:wr.grownBy wy v.ownBlock) (hq : ∀ q,v'.ownBlock=some q→v.ownBlock=some q∨wr.heap.size≤q):BSt w v' (l++[y]) wy:=by
  refine ⟨h.bel.grown hg h.bel.size (fun q e=>(h.row.lt q e).1),hrow,fun z hz=>?_⟩
  rcases List.mem_append.1 hz with hz | hz
  · exact (h.el z hz).app hg hq
  · rw [List.mem_singleton.1 hz]
    exact he.app hg hq
theorem BSt.bods {w:World} {v:Value} {l:List RawP} {wr:World} (h:BSt w v l wr):BodR wr l:=fun y hy=>(h.el y hy).out (Kpt.refl _ _)
theorem encC_rng (last:Int) : ∀ (l:List Raw),(∀ r∈l,∀ z∈r.b,0≤z∧z≤255)→∀ z∈encC last l,0≤z∧z≤255
  | [],_=>fun z hz=>by cases hz
  | r :: l,h=>by
    refine rng_append (rng_append (fun z hz=>?_) (rng_append (be_rng _ _) (h r (List.mem_cons_self ..)))) (encC_rng last l (fun y hy=>h y (List.mem_cons_of_mem _ hy)))
    simp only [List.mem_cons,List.not_mem_nil,or_false] at hz
    rcases hz with rfl | rfl
    · omega
    · split<;>omega
theorem encC_len (last:Int) : ∀ (l:List Raw),(∀ r∈l,r.b.length≤8000)→(encC last l).length≤8004*l.length
  | [],_=>by simp [encC]
  | r :: l,h=>by
    have h1:=encC_len last l (fun y hy=>h y (List.mem_cons_of_mem _ hy))
    have h2:=h r (List.mem_cons_self ..)
    show (oneC (nextC last l) r++encC last l).length≤_
    rw [List.length_append,oneC_len,List.length_cons]
    omega
end Go.Proofs.YtgpigjoonhghhaaGreat

namespace Go.Proofs.YtgpigjoonhghhaaGreat
open Go.RowKit
set_option linter.unusedVariables false
set_option linter.unusedSimpArgs false
def BuiltM (w:World) (e:Ending) (w':World):Prop:=∃ (p:Option Addr) (n c:Nat) (L:List Int) (E:Int),e=.returned (.tuple #[.slice p n c,.int .i64 E])∧Bod w' w.heap.size p n c L∧n≤8220∧Below w.heap.size w w'
theorem BuiltM.no {w w':World} {E:Int} (hb:Below w.heap.size w w'):BuiltM w (.returned (.tuple #[.slice none 0 0,.int .i64 E])) w':=⟨none,0,0,[],E,rfl,⟨Byt.nil _ _ _ (Nat.zero_le _),fun h=>by omega⟩,by omega,hb⟩
end Go.Proofs.YtgpigjoonhghhaaGreat

namespace Go.Proofs.YtgpigjoonhghhaaGreat
open Go.RowKit
set_option linter.unusedVariables false
set_option linter.unusedSimpArgs false
def BuiltX (w:World) (i r x f m:Int) (Z:List PZ) (e:Ending) (w':World):Prop :=
  (checkM x f (Z.map Prod.fst)≠0∧e=.returned (.tuple #[.slice none 0 0,.int .i64 (checkM x f (Z.map Prod.fst))])∧Below w.heap.size w w') ∨
  (checkM x f (Z.map Prod.fst)=0∧∃ (p:Option Addr) (n c:Nat),e=.returned (.tuple #[.slice p n c,.int .i64 0])∧Bod w' w.heap.size p n c (hdrL i r (nextC 0 (Z.map rawZ)) x f m (28+((encC 0 (Z.map rawZ)).length:Int))++encC 0 (Z.map rawZ))∧Below w.heap.size w w')
end Go.Proofs.YtgpigjoonhghhaaGreat
