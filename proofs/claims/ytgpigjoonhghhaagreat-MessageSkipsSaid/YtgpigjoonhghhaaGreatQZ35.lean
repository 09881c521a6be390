/-
 message.Parse told whole where the header and the chain are read.
 The payloads that are read out of a message that was written, beside those that it was made of.
-/
import Derived.Test.YtgpigjoonhghhaaGreatQZ33
namespace Go.Proofs.YtgpigjoonhghhaaGreat
open Go.RowKit
set_option linter.unusedVariables false
set_option linter.unusedSimpArgs false
theorem ReadX.form {w:World} {i r nx x f m:Int} {rs:List Raw} {e:Ending} {w':World} (h:ReadX w i r nx x f m rs e w') :
  ∃ (i' r' nx' x' f' m':Int) (q:Option Addr) (n d:Nat) (E:Int),e=.returned (.tuple #[.agg #[.int .u64 i',.int .u64 r',.int .i64 nx',.int .i64 x',.int .i64 f',.int .u32 m',.slice q n d],.int .i64 E]):=by
 obtain ⟨-,⟨E,-,-,rfl,-⟩ | ⟨-,Y,q,d,rfl,-⟩⟩:=h
 ·exact ⟨_,_,_,_,_,_,_,_,_,_,rfl⟩
 ·exact ⟨_,_,_,_,_,_,_,_,_,_,rfl⟩
theorem ReadX.after {w w3:World} {i r nx x f m:Int} {rs:List Raw} {e:Ending} {w' w'':World} (h:ReadX w3 i r nx x f m rs e w') (hb:Below w.heap.size w w'') (hs:w.heap.size≤w3.heap.size) (hk:Kpt w' w'' w3.heap.size):ReadX w i r nx x f m rs e w'':=by
 refine ⟨hb,?_⟩
 rcases h.2 with ⟨E,h1,h2,h3,h4⟩ | ⟨h1,Y,q,d,h2,h3,h4,h5,h6⟩
 ·refine Or.inl ⟨E,h1,h2,h3,?_⟩
  rcases h4 with h4 | ⟨h4,Y,h5,h6,h7⟩
  ·exact Or.inl h4
  ·exact Or.inr ⟨h4,Y,h5,fun y hy=>⟨(h6 y hy).1,fun W hW=>(h6 y hy).2 W (hk.trans (hW.mono hs))⟩,h7⟩
 ·exact Or.inr ⟨h1,Y,q,d,h2,fun W hW=>h3 W (hk.trans (hW.mono hs)),h4,fun y hy=>⟨(h5 y hy).1,fun W hW=>(h5 y hy).2 W (hk.trans (hW.mono hs))⟩,h6⟩
end Go.Proofs.YtgpigjoonhghhaaGreat

namespace Go.Proofs.YtgpigjoonhghhaaGreat
open Go.RowKit
set_option linter.unusedVariables false
set_option linter.unusedSimpArgs false
def Twin (w:World) (t:PZ × PZ):Prop:=PvRk w t.1.1 t.1.2∧PvRk w t.2.1 t.2.2∧sameV t.1.1 t.1.2 t.2.1 t.2.2=true
theorem Twin.below {w w':World} {t:PZ × PZ} (h:Twin w t) (hb:Below w.heap.size w w'):Twin w' t:=⟨h.1.below hb,h.2.1.below hb,h.2.2⟩
theorem twin_one (w:World) (y:Pv × Raw) (z:PZ) (he:y.2=rawZ z) (hy:y.1.t=y.2.k) (hr:RdP y.2 y.1 w) (hz:MadeZ z) (hp:PvRk w z.1 z.2) : ∃ D,Twin w ((y.1,D),z):=by
 obtain ⟨y,r⟩:=y
 simp only at he hy hr
 subst he
 obtain ⟨-,D,h1,h2⟩:=hr
 have hb:=build_parse z.1 z.2 w hp (buildB z.1 z.2).1 (by rw [←hz.ok]) (by have:=hz.len;omega) hz.k12
 exact ⟨D,h1,hp,hb.2 y D hy h2⟩
theorem pairUp (w:World) : ∀ (Y:List (Pv × Raw)) (Z:List PZ),Y.map Prod.snd=Z.map rawZ→(∀ y∈Y,y.1.t=y.2.k∧RdP y.2 y.1 w)→(∀ z∈Z,MadeZ z∧PvRk w z.1 z.2) →
  ∃ X:List (PZ × PZ),X.map (fun t=>t.1.1)=Y.map Prod.fst∧X.map (fun t=>t.2.1)=Z.map Prod.fst∧∀ t∈X,Twin w t
 | [],[],_,_,_=>⟨[],rfl,rfl,fun t ht=>by cases ht⟩
 | [],z :: Z,h,_,_=>by simp at h
 | y :: Y,[],h,_,_=>by simp at h
 | y :: Y,z :: Z,h,hy,hz=>by
  rw [List.map_cons,List.map_cons,List.cons.injEq] at h
  obtain ⟨X,h1,h2,h3⟩:=pairUp w Y Z h.2 (fun a ha=>hy a (List.mem_cons_of_mem _ ha)) (fun a ha=>hz a (List.mem_cons_of_mem _ ha))
  obtain ⟨D,hD⟩:=twin_one w y z h.1 (hy y (List.mem_cons_self ..)).1 (hy y (List.mem_cons_self ..)).2 (hz z (List.mem_cons_self ..)).1 (hz z (List.mem_cons_self ..)).2
  refine ⟨((y.1,D),z) :: X,by rw [List.map_cons,List.map_cons,h1],by rw [List.map_cons,List.map_cons,h2],fun t ht=>?_⟩
  rcases List.mem_cons.1 ht with rfl | ht
  ·exact hD
  ·exact h3 t ht
theorem twin_check (w:World) : ∀ (X:List (PZ × PZ)),(∀ t∈X,Twin w t)→(X.map (fun t=>t.1.1)).map keyM=(X.map (fun t=>t.2.1)).map keyM
 | [],_=>rfl
 | t :: X,h=>by
  rw [List.map_cons,List.map_cons,List.map_cons,List.map_cons,twin_check w X (fun a ha=>h a (List.mem_cons_of_mem _ ha)),same_key (h t (List.mem_cons_self ..)).2.2]
theorem zip_made : ∀ (l:List Pv) (R:Pv→Pc→Prop),(∀ y∈l,∃ C,R y C)→∃ Z:List PZ,Z.map Prod.fst=l∧∀ z∈Z,R z.1 z.2
 | [],R,_=>⟨[],rfl,fun z hz=>by cases hz⟩
 | y :: l,R,h=>by
  obtain ⟨C,hC⟩:=h y (List.mem_cons_self ..)
  obtain ⟨Z,h1,h2⟩:=zip_made l R (fun a ha=>h a (List.mem_cons_of_mem _ ha))
  refine ⟨(y,C) :: Z,by rw [List.map_cons,h1],fun z hz=>?_⟩
  rcases List.mem_cons.1 hz with rfl | hz
  ·exact hC
  ·exact h2 z hz
theorem ReadX.made {w:World} {i r nx x f m:Int} {Z:List PZ} {e:Ending} {w':World} (h:ReadX w i r nx x f m (Z.map rawZ) e w') (hz : ∀ z∈Z,MadeZ z∧PvRk w' z.1 z.2) (hc:checkM x f (Z.map Prod.fst)=0) :
  Below w.heap.size w w'∧∃ (X:List (PZ × PZ)) (q:Option Addr) (d:Nat),e=.returned (.tuple #[.agg #[.int .u64 i,.int .u64 r,.int .i64 nx,.int .i64 x,.int .i64 f,.int .u32 m,.slice q Z.length d],.int .i64 0]) ∧
   RdG KPv DPv w' q Z.length d (X.map (fun t=>t.1.1))∧X.map (fun t=>t.2.1)=Z.map Prod.fst∧(∀ t∈X,Twin w' t):=by
 have hm : ∀ z∈Z,MadeZ z:=fun z h=>(hz z h).1
 have hE:errR (Z.map rawZ)=0:=errR_Z Z hm (fun z h=>by
  have hb:=build_parse z.1 z.2 w' (hz z h).2 (buildB z.1 z.2).1 (by rw [←(hm z h).ok]) (by have:=(hm z h).len;omega) (hm z h).k12
  exact hb.1)
 have hK:=knownZ Z hm
 obtain ⟨hb,⟨E,h1,h2,h3,h4⟩ | ⟨h1,Y,q,d,h2,h3,h4,h5,h6⟩⟩:=h
 ·rcases h4 with ⟨h4,-⟩ | ⟨-,Y,h5,h6,h7⟩
  ·exact absurd hE h4
  ·rw [hK] at h5
   obtain ⟨X,x1,x2,x3⟩:=pairUp w' Y Z h5 (fun y hy=>⟨(h6 y hy).1,(h6 y hy).2 w' (Kpt.refl _ _)⟩) hz
   have h8:=check_key (twin_check w' X x3) x f
   rw [x1,x2,hc] at h8
   exact absurd (h7.trans h8) h1
 ·rw [hK] at h4
  obtain ⟨X,x1,x2,x3⟩:=pairUp w' Y Z h4 (fun y hy=>⟨(h5 y hy).1,(h5 y hy).2 w' (Kpt.refl _ _)⟩) hz
  have hl:Y.length=Z.length:=by have:=congrArg List.length h4;simpa using this
  refine ⟨hb,X,q,d,by rw [h2,hl],?_,x2,x3⟩
  have h9:=h3 w' (Kpt.refl _ _)
  rw [hl,←x1] at h9
  exact h9
end Go.Proofs.YtgpigjoonhghhaaGreat
