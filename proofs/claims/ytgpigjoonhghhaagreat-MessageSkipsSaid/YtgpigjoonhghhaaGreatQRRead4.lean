/-
 What the document's own reader of proposals returns, for any bytes.
-/
import Derived.Test.YtgpigjoonhghhaaGreatQZ0
import Derived.Test.YtgpigjoonhghhaaGreatQZ1
import Derived.Deep.RegionLaw
namespace Go.Proofs.YtgpigjoonhghhaaGreat
open Go.RowKit
set_option linter.unusedVariables false
theorem w2_at (xs:List Int) (a:Nat) (h:a+2≤xs.length):val ((xs.drop a).take 2)=w2 xs a:=by
 have e:(xs.drop a).take 2=[xs.getD a 0,xs.getD (a+1) 0]:=by
  apply List.ext_getElem
  ·simp;omega
  ·intro i h1 h2
   have:i=0∨i=1:=by simp at h2;omega
   rcases this with rfl | rfl<;>simp [List.getD_eq_getElem?_getD]<;>rw [List.getElem?_eq_getElem (by omega)]<;>rfl
 rw [e,w2]
 simp [val]
theorem w2_bd (xs:List Int) (hr : ∀ x∈xs,0≤x∧x≤255) (a:Nat):0≤w2 xs a∧w2 xs a≤65535:=by
 have h0:=rng_getD hr a
 have h1:=rng_getD hr (a+1)
 unfold w2
 omega
theorem rnum_two (p:Option Addr) (n c:Nat) (xs:List Int) (w:World) (h:Byt w p n c xs) (a:Nat) (hin:a+2≤n) (v:Int) (hv:w2 xs a=v) :
  Calls Tryz.prog 42 #[.slice p n c,.int .i64 a,.int .i64 2] w fun e w'=>e=.returned (.tuple #[.int .u64 v,.bool true])∧w=w':=by
 subst hv
 have:=rnumber_yes p n c xs w h a 2 (by omega) (by omega) (by omega)
 rw [w2_at xs a (by have:=h.len;omega)] at this
 exact this
set_option maxHeartbeats 400000 in
theorem word_at (p:Option Addr) (n c:Nat) (xs:List Int) (w:World) (h:Byt w p n c xs) (a:Nat) (hin:a+2≤n) (A:Int) (hA:A=a) (v:Int) (hv:w2 xs a=v) :
  Calls Tryz.prog 77 #[.slice p n c,.int .i64 A] w fun e w'=>e=.returned (.int .i64 v)∧w=w':=by
 subst hA
 have hb:=w2_bd xs h.rng a
 have HN:=hidden (rnum_two p n c xs w h a hin v hv)
 rw [hv] at hb
 have hn:=h.le
 clear h hv
 go_enter Tryz.func77,Tryz.ntmps77
 go_wp2_with (go_at_call 42;(with_reducible refine (HN.out).mono ?_);rintro e w' ⟨rfl,rfl⟩)
 go_ret
 exact ⟨rfl,rfl⟩
set_option maxHeartbeats 400000 in
theorem attributes_any (p:Option Addr) (n c:Nat) (xs:List Int) (w:World) (h:Byt w p n c xs) :
  Calls Tryz.prog 96 #[.slice p n c] w fun e w'=>e=.returned (.tuple #[.int .i64 (attrV xs).1,.bool (attrV xs).2])∧w=w':=by
 have hl:=h.len
 have hn:=h.le
 unfold attrV
 rw [hl]
 by_cases h0:n=0
 ·rw [if_pos h0]
  subst h0
  clear h
  go_enter Tryz.func96,Tryz.ntmps96
  go_wp2
  go_ret2
  exact ⟨rfl,rfl⟩
 rw [if_neg h0]
 have h0':((n:Int) == 0)=false:=by simp;omega
 by_cases h4:n≠4
 ·rw [if_pos (Or.inl h4)]
  have h4':((n:Int) != 4)=true:=by simp;omega
  clear h
  go_enter Tryz.func96,Tryz.ntmps96
  go_wp2
  go_ret2
  exact ⟨rfl,rfl⟩
 obtain rfl:n=4:=by omega
 have b0:=w2_bd xs h.rng 0
 have b2:=w2_bd xs h.rng 2
 have H0:=hidden (word_at p 4 c xs w h 0 (by omega) 0 rfl _ rfl)
 have H2:=hidden (word_at p 4 c xs w h 2 (by omega) 2 rfl _ rfl)
 generalize w2 xs 0=u at *
 generalize w2 xs 2=v at *
 clear h
 by_cases hu:u≠32782
 ·have hu':(u != 32782)=true:=by simp;omega
  rw [if_pos (Or.inr (Or.inl hu))]
  go_enter Tryz.func96,Tryz.ntmps96
  go_wp2_with (go_at_call 77;(with_reducible refine (H0.out).mono ?_);rintro e w' ⟨rfl,rfl⟩)
  go_ret2
  exact ⟨rfl,rfl⟩
 obtain rfl:u=32782:=by omega
 by_cases hv:v=0
 ·subst hv
  rw [if_pos (Or.inr (Or.inr rfl))]
  go_enter Tryz.func96,Tryz.ntmps96
  go_wp2_with (go_at_call 77;(first | with_reducible refine (H0.out).mono ?_ | with_reducible refine (H2.out).mono ?_);rintro e w' ⟨rfl,rfl⟩)
  go_ret2
  exact ⟨rfl,rfl⟩
 ·have hv':(v == 0)=false:=by simpa using hv
  rw [if_neg (by omega)]
  go_enter Tryz.func96,Tryz.ntmps96
  go_wp2_with (go_at_call 77;(first | with_reducible refine (H0.out).mono ?_ | with_reducible refine (H2.out).mono ?_);rintro e w' ⟨rfl,rfl⟩)
  go_ret2
  exact ⟨rfl,rfl⟩
theorem getD_drop (xs:List Int) (a b:Nat):(xs.drop a).getD b 0=xs.getD (a+b) 0:=by simp [List.getD_eq_getElem?_getD]
theorem w2_drop (xs:List Int) (a b:Nat):w2 (xs.drop a) b=w2 xs (a+b):=by rw [w2,getD_drop,getD_drop,w2,Nat.add_assoc]
theorem trs_round (xs:List Int) (n at_:Nat) (hl:xs.length=n) (h:at_<n) (l:List Tr) (L:Int) (hL:w2 xs (at_+2)=L) (r:Option (List Tr)) (hr:(trsV (xs.drop at_)).map (l++·)=r) :
  r=if n - at_<8 then none else if L<8∨(n:Int) - at_<L then none
  else if xs.getD at_ 0≠(if (n:Int) - at_=L then 0 else 3)∨(attrV ((xs.drop (at_+8)).take (L.toNat - 8))).2=false then none
  else (trsV (xs.drop (at_+L.toNat))).map ((l++[⟨xs.getD (at_+4) 0,w2 xs (at_+6),(attrV ((xs.drop (at_+8)).take (L.toNat - 8))).1⟩])++·):=by
 have hd:(xs.drop at_).length=n - at_:=by simp [hl]
 rw [←hr,trsV_step _ (by omega)]
 simp only [w2_drop,getD_drop,List.drop_drop,hd,hL,Nat.add_zero]
 have e:((n - at_:Nat):Int)=(n:Int) - at_:=by omega
 rw [e]
 split
 ·rfl
 split
 ·rfl
 generalize (if (n:Int) - at_=L then (0:Int) else 3)=M
 by_cases hc:xs.getD at_ 0≠M∨(attrV ((xs.drop (at_+8)).take (L.toNat - 8))).2=false
 ·rw [if_pos hc,if_pos hc]
  rfl
 ·rw [if_neg hc,if_neg hc,Option.map_map]
  congr 1
  funext x
  simp
def GotT (w:World) (r:Option (List Tr)) (k:Int) (e:Ending) (w':World):Prop:=Below w.heap.size w w'∧match r with
 | none=>e=.returned (.tuple #[.slice none 0 0,.bool false])
 | some l=>∃ v,e=.returned (.tuple #[v,.bool ((l.length:Int) == k)])∧RowG KTr NTr w' w.heap.size v l
theorem got_none (w w':World) (r:Option (List Tr)) (k:Int) (hr:r=none) (hb:Below w.heap.size w w'):GotT w r k (.returned (.tuple #[.slice none 0 0,.bool false])) w':=by
 subst hr
 exact ⟨hb,rfl⟩
set_option maxHeartbeats 1600000 in
set_option maxRecDepth 100000 in
theorem transforms_any (p:Option Addr) (n c:Nat) (xs:List Int) (w:World) (h:Byt w p n c xs) (hb:n≤100000) (k:Int) (r:Option (List Tr)) (hr:trsV xs=r) :
  Calls Tryz.prog 78 #[.slice p n c,.int .i64 k] w (GotT w r k):=by
 have hn:=h.le
 have HX:=hidden h
 have HLen:=hidden h.len
 have HR:=hidden hr
 clear h hr
 go_enter Tryz.func78,Tryz.ntmps78
 go_wp2
 go_loopw [6,7] (fun o a wr=>∃ (at_:Nat) (l:List Tr),a=.int .i64 at_∧at_≤n∧l.length*8≤at_∧(trsV (xs.drop at_)).map (l++·)=r∧RowG KTr NTr wr w.heap.size o l∧Below w.heap.size w wr) (fun _ a _=>n - (intOf a).toNat)
 case atStart=>exact ⟨0,[],rfl,by omega,by simp,by rw [List.drop_zero,HR.out];simp,RowG.nil _ _ _ _,Below.refl _ _⟩
 case round =>
  obtain ⟨at_,l,rfl,hat,hl8,hres,hrow,hbel⟩:=hrel
  obtain ⟨po,co,rfl⟩:=hrow.form rfl
  have HRW:=hidden hrow
  have HBL:=hidden hbel
  have HXw:=hidden (HX.out.below hbel)
  clear hrow hbel
  by_cases he:at_=n
  ·subst he
   rw [trsV_nil _ (by simp [HLen.out])] at hres
   simp at hres
   subst hres
   clear HR
   go_wp2
   go_ret2
   exact ⟨HBL.out,_,rfl,HRW.out⟩
  have hlt:at_<n:=by omega
  have hlt':(at_:Int)<n:=by omega
  obtain ⟨L,hL⟩ : ∃ L,w2 xs (at_+2)=L:=⟨_,rfl⟩
  have hre:=trs_round xs n at_ HLen.out hlt l L hL r hres
  clear hres he
  by_cases h8:n - at_<8
  ·rw [if_pos h8] at hre
   have h8':(n:Int) - at_<8:=by omega
   clear hL
   go_wp2
   go_ret2
   exact got_none _ _ _ _ hre HBL.out
  rw [if_neg h8] at hre
  have h8':¬ (n:Int) - at_<8:=by omega
  have hLb:=w2_bd xs HX.out.rng (at_+2)
  rw [hL] at hLb
  have HW1:=hidden (word_at p n c xs _ HXw.out (at_+2) (by omega) ((at_:Int)+2) (by omega) L hL)
  by_cases hbad:L<8∨(n:Int) - at_<L
  ·rw [if_pos hbad] at hre
   have HRE:=hidden hre
   clear hL hre
   by_cases hb1:L<8
   ·clear hbad
    go_wp2_with (go_at_call 77;(with_reducible refine (HW1.out).mono ?_);rintro e w' ⟨rfl,rfl⟩)
    go_ret2
    exact got_none _ _ _ _ HRE.out HBL.out
   ·have hb2:(n:Int) - at_<L:=by omega
    clear hbad
    go_wp2_with (go_at_call 77;(with_reducible refine (HW1.out).mono ?_);rintro e w' ⟨rfl,rfl⟩)
    go_ret2
    exact got_none _ _ _ _ HRE.out HBL.out
  rw [if_neg hbad] at hre
  obtain ⟨m,rfl⟩:=Int.eq_ofNat_of_zero_le (show 0≤L by omega)
  have hm8:¬ (m:Int)<8:=by omega
  have hmn:¬ (n:Int) - at_<m:=by omega
  have hmm:8≤m:=by omega
  have hmk:at_+m≤n:=by omega
  have hcap:=HX.out.cap
  have hp:=HXw.out.part (at_+8) (at_+m) (by omega) hmk
  rw [show (xs.take (at_+m)).drop (at_+8)=(xs.drop (at_+8)).take (m - 8) by rw [List.drop_take];congr 1;omega] at hp
  rw [Int.toNat_natCast] at hre
  obtain ⟨ys,hys⟩ : ∃ ys,(xs.drop (at_+8)).take (m - 8)=ys:=⟨_,rfl⟩
  rw [hys] at hre hp
  have HP:=hidden hp
  have HRE:=hidden hre
  clear hp hre hbad hL
  obtain ⟨bb,o,rfl,hcell⟩:=HX.out.at_ (by omega)
  have hx0:=cell_below HBL.out _ _ (hcell at_ (by omega))
  have hx4:=cell_below HBL.out _ _ (hcell (at_+4) (by omega))
  have r0:=rng_getD HX.out.rng at_
  have r4:=rng_getD HX.out.rng (at_+4)
  have r6:=w2_bd xs HX.out.rng (at_+6)
  obtain ⟨I,hI⟩ : ∃ I,w2 xs (at_+6)=I:=⟨_,rfl⟩
  have HW2:=hidden (fun w (h:Byt w (some ⟨bb,o,none⟩) n c xs)=>word_at (some ⟨bb,o,none⟩) n c xs w h (at_+6) (by omega) ((at_:Int)+6) (by omega) I hI)
  rw [hI] at r6
  rw [hI] at HRE
  generalize xs.getD at_ 0=x0 at *
  generalize xs.getD (at_+4) 0=x4 at *
  obtain ⟨kk,ok,hav⟩ : ∃ kk ok,attrV ys=(kk,ok):=⟨_,_,rfl⟩
  have HAV:=hidden hav
  rw [hav] at HRE
  have HX0:=hidden hx0
  have HX4:=hidden hx4
  have hkk:0≤kk∧kk≤65535:=by
   have h1:=w2_bd ys HP.out.rng 2
   unfold attrV at hav
   split at hav
   ·simp at hav;omega
   split at hav
   ·simp at hav;omega
   ·simp at hav;omega
  clear hcell hx0 hx4 hI hav hys
  obtain ⟨M,hMd,hM,hM'⟩ : ∃ M:Int,(M=0∨M=3)∧(if (n:Int) - at_=m then (0:Int) else 3)=M∧((at_+m=n∧M=0)∨(at_+m≠n∧M=3)):=by
   by_cases hh:at_+m=n
   ·exact ⟨0,Or.inl rfl,by rw [if_pos (by omega)],Or.inl ⟨hh,rfl⟩⟩
   ·exact ⟨3,Or.inr rfl,by rw [if_neg (by omega)],Or.inr ⟨hh,rfl⟩⟩
  rw [hM] at HRE
  clear hM hMd
  have hcc:c=at_+8∨c≠at_+8:=by omega
  have hbe:((at_:Int)+m == n)=true∨((at_:Int)+m == n)=false:=by cases ((at_:Int)+m == n)<;>simp
  by_cases hx:x0≠M
  ·have hr:=HRE.out
   rw [if_pos (Or.inl hx)] at hr
   have HR0:=hidden hr
   clear hr HRE
   rcases hM' with ⟨hh,rfl⟩ | ⟨hh,rfl⟩<;>rcases hcc with rfl | hca<;>try (exfalso;omega)
   all_goals
    first | have hq:((at_:Int)+m == n)=true:=by simp;omega | have hq:((at_:Int)+m == n)=false:=by simp;omega
    first | have hx':(x0 != 0)=true:=by simpa using hx | have hx':(x0 != 3)=true:=by simpa using hx
    first | (rw [if_neg hca] at HP;replace HP:Hid (Byt wr (some ⟨bb,o+(at_+8),none⟩) (at_+m - (at_+8)) (c - (at_+8)) ys):=HP) | rw [if_pos rfl,Nat.sub_self] at HP
    clear hbe hh hx
    go_wp2_with (first
     | (go_at_call 77;(with_reducible refine (HW1.out).mono ?_);rintro e w' ⟨rfl,rfl⟩)
     | (go_at_call 96;(refine (attributes_any _ _ _ ys _ HP.out).mono ?_);rintro e w' ⟨rfl,rfl⟩;rw [HAV.out];have hx0:=HX0.out))
    go_ret2
    exact got_none _ _ _ _ HR0.out HBL.out
  obtain rfl:x0=M:=by omega
  cases ok with
  | false =>
   have hr:=HRE.out
   rw [if_pos (Or.inr rfl)] at hr
   have HR0:=hidden hr
   clear hr HRE
   rcases hM' with ⟨hh,rfl⟩ | ⟨hh,rfl⟩<;>rcases hcc with rfl | hca<;>try (exfalso;omega)
   all_goals
    first | have hq:((at_:Int)+m == n)=true:=by simp;omega | have hq:((at_:Int)+m == n)=false:=by simp;omega
    first | (rw [if_neg hca] at HP;replace HP:Hid (Byt wr (some ⟨bb,o+(at_+8),none⟩) (at_+m - (at_+8)) (c - (at_+8)) ys):=HP) | rw [if_pos rfl,Nat.sub_self] at HP
    clear hbe hh hx
    go_wp2_with (first
     | (go_at_call 77;(with_reducible refine (HW1.out).mono ?_);rintro e w' ⟨rfl,rfl⟩)
     | (go_at_call 96;(refine (attributes_any _ _ _ ys _ HP.out).mono ?_);rintro e w' ⟨rfl,rfl⟩;rw [HAV.out];have hx0:=HX0.out))
    go_ret2
    exact got_none _ _ _ _ HR0.out HBL.out
  | true =>
   have hr:=HRE.out
   rw [if_neg (by simp)] at hr
   have HR0:=hidden hr
   have HXD:Hid (Byt wr.drew (some ⟨bb,o,none⟩) n c xs):=hidden (HXw.out.below (drew_below ⟨1,rfl⟩))
   have HRD:Hid (RowG KTr NTr wr.drew w.heap.size (.slice po l.length co) l):=hidden (HRW.out.below (drew_below ⟨1,rfl⟩))
   have HBD:Hid (Below w.heap.size w wr.drew):=hidden (HBL.out.trans ((drew_below (w:=wr) (w':=wr.drew) ⟨1,rfl⟩)))
   have HOK:Hid (IntT ⟨x4,I,kk⟩):=hidden ⟨⟨by show -9223372036854775808≤x4;omega,by show x4≤9223372036854775807;omega⟩,⟨by show -9223372036854775808≤I;omega,by show I≤9223372036854775807;omega⟩,⟨by show -9223372036854775808≤kk;omega,by show kk≤9223372036854775807;omega⟩⟩
   clear hr HRE
   rcases hM' with ⟨hh,rfl⟩ | ⟨hh,rfl⟩<;>rcases hcc with rfl | hca<;>try (exfalso;omega)
   all_goals
    first | have hq:((at_:Int)+m == n)=true:=by simp;omega | have hq:((at_:Int)+m == n)=false:=by simp;omega
    first | (rw [if_neg hca] at HP;replace HP:Hid (Byt wr (some ⟨bb,o+(at_+8),none⟩) (at_+m - (at_+8)) (c - (at_+8)) ys):=HP) | rw [if_pos rfl,Nat.sub_self] at HP
    clear hbe hh hx
    go_wp2_with (first
     | (go_at_call 77;(with_reducible refine (HW1.out).mono ?_);rintro e w' ⟨rfl,rfl⟩)
     | (go_at_call 96;(refine (attributes_any _ _ _ ys _ HP.out).mono ?_);rintro e w' ⟨rfl,rfl⟩;rw [HAV.out];have hx0:=HX0.out))
    have hx4:wr.drew.cell? ⟨bb,o+(at_+4),none⟩=some (.int .u8 x4):=HX4.out
    have hw4:IntKind.i64.wrap ((at_:Int)+4)=(at_:Int)+4:=by rw [IntKind.wrap_i64];omega
    have hw6:IntKind.i64.wrap ((at_:Int)+6)=(at_:Int)+6:=by rw [IntKind.wrap_i64];omega
    have hwx:IntKind.i64.wrap x4=x4:=by rw [IntKind.wrap_i64];omega
    have hin4:0≤(at_:Int)+4∧(at_:Int)+4<n:=by omega
    have ht4:((at_:Int)+4).toNat=at_+4:=by omega
    go_region_law (first
     | (go_simp;go_at_call 77;(with_reducible refine (HW2.out _ HXD.out).mono ?_);rintro e wA ⟨rfl,rfl⟩)
     | (refine step_append_g knownTr (by simp [NTr]) _ (by rfl) (.tmp 62) (.tmp 75) (by rfl) w.heap.size _ l (by rfl) (HRD.out.alloc _) _ 1 1 [⟨x4,I,kk⟩] (by rfl) (srcTr wr x4 I kk _) (fun x hx=>by rw [List.mem_singleton.1 hx];exact HOK.out) (by unfold maxLen;omega) (by omega) (by have:=HBL.out.size;simp;omega) ?_;intro v' w3 hr3 hg3))
    all_goals
     have HR3:=hidden hr3
     have HB3:=hidden ((HBD.out.alloc HBD.out.size _).grown hg3 (by have:=HBL.out.size;simp;omega) (fun g hg=>(HRD.out.lt g hg).1))
     clear hr3 hg3 HRD HBD HXD
     go_wp2
     go_roundw
     case rel =>
      refine ⟨at_+m,l++[⟨x4,I,kk⟩],by go_num,by omega,by simp;omega,?_,HR3.out,HB3.out⟩
      rw [←HR0.out]
     case measure =>
      simp [intOf]
      omega
end Go.Proofs.YtgpigjoonhghhaaGreat
