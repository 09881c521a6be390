/-
 What the document's own Build of selectors returns.
 Codes.Payload, a type at a time.
-/
import Derived.Test.YtgpigjoonhghhaaGreatQZ14
import Derived.Test.YtgpigjoonhghhaaGreatQZ11
import Derived.Test.YtgpigjoonhghhaaGreatQZ10
import Derived.Test.YtgpigjoonhghhaaGreatQZ7
namespace Go.Proofs.YtgpigjoonhghhaaGreat
open Go.RowKit
set_option linter.unusedVariables false
set_option maxHeartbeats 1600000 in
set_option maxRecDepth 100000 in
theorem rbuild5_any (p:Option Addr) (n c:Nat) (l:List Sl) (w:World) (h:RdG KSl DSlr w p n c l) (L:List Int) (E:Int) (hE:buildS l=(L,E)) :
  Calls Tryz.prog 37 #[.slice p n c] w (BuiltS w L E):=by
 obtain ⟨i0,hi0,hz0,hz1,hz2⟩:=info_parts Tryz.infoByte
 have hn:=h.le
 unfold buildS at hE
 rw [h.len] at hE
 by_cases h0:n=0
 ·rw [if_pos h0] at hE
  subst h0
  have HE:=hidden hE
  clear h hE
  go_enter Tryz.func37,Tryz.ntmps37
  go_wp2
  go_ret2
  exact built_none _ _ _ _ _ HE.out (Below.refl _ _)
 rw [if_neg h0] at hE
 have h0':((n:Int) == 0)=false:=by simp;omega
 by_cases h16:n > 16
 ·rw [if_pos h16] at hE
  have HE:=hidden hE
  have h16':(n:Int) > 16:=by omega
  clear h hE
  go_enter Tryz.func37,Tryz.ntmps37
  go_wp2
  go_ret2
  exact built_none _ _ _ _ _ HE.out (Below.refl _ _)
 rw [if_neg h16] at hE
 have h16':¬ (n:Int) > 16:=by omega
 obtain ⟨z,hz⟩ : ∃ z,errL l=z:=⟨_,rfl⟩
 rw [hz] at hE
 have HL:=hidden h
 have HLen:=hidden h.len
 have HE:=hidden hE
 have HZ:=hidden hz
 clear hE hz h
 go_enter Tryz.func37,Tryz.ntmps37
 go_upto_region 5 with fail
 go_wp2_with fail
 go_loopw [4] (fun i wr=>∃ j:Nat,j≤n∧i=.int .i64 j∧errL (l.drop j)=z∧Below w.heap.size w wr) (fun i _=>n - (intOf i).toNat)
 case atStart=>exact ⟨0,by omega,rfl,by rw [List.drop_zero];exact HZ.out,Below.refl _ _⟩
 case round =>
  obtain ⟨j,hj,rfl,he,hb⟩:=hrel
  have HB:=hidden hb
  by_cases hlt:j<n
  ·have hlt':(j:Int)<n:=by omega
   have hjl:j<l.length:=by rw [HLen.out];exact hlt
   rw [errL_drop l j hjl] at he
   obtain ⟨g,rfl,c0,c1,c2,c3,c4,c5,c6,c7,c8,-⟩:=rd_sl (HL.out.below hb) j hjl
   obtain ⟨s,hs⟩ : ∃ s,l[j]=s:=⟨_,rfl⟩
   rw [hs] at he c0 c1 c2 c3 c4 c5 c6 c7 c8
   obtain ⟨y,hy⟩ : ∃ y,checkS s=y:=⟨_,rfl⟩
   rw [hy] at he
   have HC:=hidden (rscheck_at s y hy)
   have HHE:=hidden he
   have hb9:j*9+8≤9223372036854775807*9:=by omega
   clear hs hy hjl hb he
   by_cases hz0':y=0
   ·subst hz0'
    go_wp2_with (first
     | (go_at_call 58;(with_reducible refine (HC.out _).mono ?_);rintro e w1 ⟨rfl,hb1⟩;have HB1:=hidden (HB.out.trans (hb1.mono HB.out.size));clear hb1)
     | fail)
    go_roundw
    case rel=>exact ⟨j+1,by omega,by go_num,by have:=HHE.out;simpa using this,HB1.out⟩
    case measure=>simp [intOf];omega
   ·have hz':(y != 0)=true:=by simpa using hz0'
    have hEz:y=z:=by have:=HHE.out;rw [if_pos hz0'] at this;exact this
    subst hEz
    have HE2:=hidden (show ([],y)=(L,E) by have:=HE.out;rw [if_pos hz0'] at this;exact this)
    clear hz0' HHE HE
    go_wp2_with (first
     | (go_at_call 58;(with_reducible refine (HC.out _).mono ?_);rintro e w1 ⟨rfl,hb1⟩;have HB1:=hidden (HB.out.trans (hb1.mono HB.out.size));clear hb1)
     | fail)
    go_ret2
    exact built_none _ _ _ _ _ HE2.out HB1.out
  ·obtain rfl:j=n:=by omega
   rw [List.drop_eq_nil_of_le (by rw [HLen.out];omega)] at he
   have he':(0:Int)=z:=he
   subst he'
   have HE2:=hidden (show ((j:Int) :: 0 :: 0 :: 0 :: encL l,0)=(L,E) by have:=HE.out;rw [if_neg (by simp)] at this;exact this)
   have HG:=hidden (fun s hs=>good_of_check (HL.out.ok s hs) (errL_zero HZ.out s hs))
   have hw8:IntKind.u8.wrap (j:Int)=j:=by rw [IntKind.wrap_u8];omega
   clear hb he HE HZ HLen h0 h0' h16 hlt
   have HLen:Hid (l.length=j):=hidden HL.out.len
   go_upto_region 12 with fail
   rename World=>wo
   have HB2:=hidden (HB.out.alloc HB.out.size (.cells #[.int .u8 j,.int .u8 0,.int .u8 0,.int .u8 0] 5))
   have HO2:=hidden (own_four wo w.heap.size HB.out.size j 0 0 0)
   clear HB
   go_wp2_with fail
   go_loopw [6,7] (fun v i wr=>∃ k:Nat,k≤j∧i=.int .i64 k∧Own wr w.heap.size 5 v ([(j:Int),0,0,0]++encL (l.take k))∧Below w.heap.size w wr) (fun _ i _=>j - (intOf i).toNat)
   case atStart=>exact ⟨0,by omega,rfl,by simpa [encL] using HO2.out,HB2.out⟩
   case round =>
    obtain ⟨k,hk,rfl,ho,hb⟩:=hrel
    have HO:=hidden ho
    have HB:=hidden hb
    clear HO2 HB2
    by_cases hlt:k<j
    ·have hlt':(k:Int)<j:=by omega
     have hkl:k<l.length:=by rw [HLen.out];exact hlt
     obtain ⟨g,rfl,-⟩:=rd_sl (HL.out.below hb) k hkl
     have HRD:=hidden (fun wx (hb:Below w.heap.size w wx)=>(show _∧_ from by
      obtain ⟨g',e,c0,c1,c2,c3,c4,c5,c6,c7,c8,-⟩:=rd_sl (HL.out.below hb) k hkl
      cases e
      exact ⟨c0,c1,c2,c3,c4,c5,c6,c7,c8⟩:wx.cell? ⟨g,k*9,none⟩=some (.int .i64 l[k].p)∧wx.cell? ⟨g,k*9+1,none⟩=some (.int .i64 l[k].a)∧wx.cell? ⟨g,k*9+2,none⟩=some (.int .i64 l[k].b)∧wx.cell? ⟨g,k*9+3,none⟩=some (.int .i64 l[k].lo.f)∧wx.cell? ⟨g,k*9+4,none⟩=some (.int .u64 l[k].lo.h)∧wx.cell? ⟨g,k*9+5,none⟩=some (.int .u64 l[k].lo.l)∧wx.cell? ⟨g,k*9+6,none⟩=some (.int .i64 l[k].hi.f)∧wx.cell? ⟨g,k*9+7,none⟩=some (.int .u64 l[k].hi.h)∧wx.cell? ⟨g,k*9+8,none⟩=some (.int .u64 l[k].hi.l)))
     have hnx:=encL_take l k hkl
     have hgs:=HG.out l[k] (List.getElem_mem hkl)
     have hle:=encL_le (l.take k) (fun s hs=>HG.out s (List.mem_of_mem_take hs))
     generalize l[k]=s at *
     obtain ⟨X,hX⟩ : ∃ X,[(j:Int),0,0,0]++encL (l.take k)=X:=⟨_,rfl⟩
     have hXl:X.length≤4+j*40:=by
      rw [←hX,List.length_append]
      simp only [List.length_take] at hle
      have:min k l.length*40≤j*40:=by omega
      simp
      omega
     have hXr : ∀ z∈X,0≤z∧z≤255:=by
      rw [←hX]
      exact rng_append (by intro z hz;simp at hz;omega) (encL_rng _)
     have HXE:=hidden (show X++encO s=[(j:Int),0,0,0]++encL (l.take (k+1)) by rw [hnx,←hX,List.append_assoc])
     rw [hX] at HO ho
     have hp:=hgs.p
     have hq:=hgs.q
     have ha:0≤s.a∧s.a≤65535:=by omega
     have hbb:0≤s.b∧s.b≤65535:=by omega
     have HF1:=hidden hgs.flo
     have HF2:=hidden hgs.fhi
     have hw1:IntKind.u8.wrap s.p=s.p:=by rw [IntKind.wrap_u8];omega
     have hw2:IntKind.u64.wrap s.a=s.a:=wraps_u64 _ (by omega) (by omega)
     have hw3:IntKind.u64.wrap s.b=s.b:=wraps_u64 _ (by omega) (by omega)
     obtain ⟨K,Z,S,hKZ,hK,hZ,hS,hSz,h6⟩ : ∃ K Z S:Int,encO s=be 1 K++(be 1 s.p++(be 2 Z++(be 2 s.a++(be 2 s.b++(encA s.lo++encA s.hi)))))∧(0≤K∧K≤8)∧(0≤Z∧Z≤40)∧(Z=8+2*S∧0≤S∧S≤16)∧((sizeA s.lo.f:Nat):Int)=S∧(((s.lo.f == 6)=true∧K=8)∨((s.lo.f == 6)=false∧K=7)):=by
      by_cases h6:s.lo.f=6
      ·exact ⟨8,40,16,by unfold encO;rw [if_pos h6,if_pos h6],by omega,by omega,by omega,by unfold sizeA;rw [if_neg (by omega)];rfl,Or.inl ⟨by simpa using h6,rfl⟩⟩
      ·exact ⟨7,16,4,by unfold encO;rw [if_neg h6,if_neg h6],by omega,by omega,by omega,by
        have hv:=hgs.vlo
        unfold validA at hv
        simp at hv
        unfold sizeA
        rw [if_pos (by omega)];rfl,Or.inr ⟨by simpa using h6,rfl⟩⟩
     have HE:=hidden hKZ
     have HSZ:=hidden (rsize_any s.lo.f)
     rw [hSz] at HSZ
     obtain ⟨rfl,hS⟩:=hS
     have hw4:IntKind.i64.wrap (2*S)=2*S:=by rw [IntKind.wrap_i64];omega
     have hw5:IntKind.i64.wrap (8+2*S)=8+2*S:=by rw [IntKind.wrap_i64];omega
     have hw6:IntKind.u64.wrap (8+2*S)=8+2*S:=wraps_u64 _ (by omega) (by omega)
     have hb9:k*9+8≤9223372036854775807*9:=by omega
     obtain ⟨po,co,rfl⟩:=ho.form
     rename World=>wk
     have hcell:=HRD.out wk hb
     obtain ⟨-,-,-,c3,-⟩:=hcell
     clear hnx hgs hle hX hKZ hSz hq ho hb
     have HK1:=hidden (fun wx (hb:Below w.heap.size w wx)=>And.intro (HRD.out wx hb).1 (HRD.out wx hb).2.2.2.1)
     have HK2:=hidden (fun wx (hb:Below w.heap.size w wx)=>And.intro (HRD.out wx hb).2.1 (HRD.out wx hb).2.2.1)
     have HK3:=hidden (fun wx (hb:Below w.heap.size w wx)=>(HRD.out wx hb).2.2.2)
     clear HRD
     have hl2:(X++[K,s.p]).length=X.length+2:=by simp
     have hr2 : ∀ z∈X++[K,s.p],0≤z∧z≤255:=rng_append hXr (by intro z hz;simp at hz;omega)
     have HL2:=hidden hl2
     have HR2:=hidden hr2
     clear hl2 hr2 hXr
     have HBD:=hidden (HB.out.trans (drew_below (B:=w.heap.size) (w:=wk) (w':=wk.drew) ⟨1,rfl⟩))
     have HOD:=hidden (HO.out.below (w':=wk.drew) (drew_below ⟨1,rfl⟩))
     have hK':0≤K∧K≤255:=by omega
     rcases h6 with ⟨h6,rfl⟩ | ⟨h6,rfl⟩
     ·go_upto_region 18 with fail
      clear c3
      have HBA:=hidden ((HB.out.alloc HB.out.size (.cells #[.int .u8 8,.int .u8 s.p] 5)).trans (drew_below (B:=w.heap.size) (w':=(wk.alloc (.cells #[.int .u8 8,.int .u8 s.p] 5)).drew) ⟨1,rfl⟩))
      have HOA:=hidden ((HO.out.alloc (.cells #[.int .u8 8,.int .u8 s.p] 5)).below (w':=(wk.alloc (.cells #[.int .u8 8,.int .u8 s.p] 5)).drew) (drew_below ⟨1,rfl⟩))
      have HTW:Hid (Byt (wk.alloc (.cells #[.int .u8 8,.int .u8 s.p] 5)).drew (some ⟨wk.heap.size,0,none⟩) 2 2 [8,s.p]):=hidden (two_byt hK' hp (by go_simp) (by go_simp))
      go_region_held3 (fun w'=>w'.cell? ⟨g,k*9,none⟩=some (.int .i64 s.p)∧w'.cell? ⟨g,k*9+3,none⟩=some (.int .i64 s.lo.f)) (first | exact HK1.out _ HBD.out | exact HK1.out _ HBA.out | exact HK1.out _ (HBD.out.alloc HBD.out.size _) | exact HK1.out _ HB4.out | exact HK1.out _ HB5.out | go_keep)
       (first
       | (go_at_call 59;(with_reducible refine (HSZ.out _).mono ?_);rintro e w' ⟨rfl,rfl⟩)
       | (go_at_call 20;(with_reducible refine (rput_b pu (X.length+2) cu _ w4 HY4.out (by omega) (8+2*S) (by omega) 2 (by omega) (by omega) 2 rfl).mono ?_);rintro e w5 ⟨q5,m5,d5,rfl,hm,-,hy,hb5⟩;obtain rfl:m5=X.length+4:=(by rw [←hm,List.length_append,HL2.out,be_len]);have HY5:=hidden hy;have HB5:=hidden (HB4.out.trans (hb5.mono HB4.out.size));clear hm hy hb5)
       | (refine step_append_byt _ (by rfl) _ _ 22 (by rfl) w.heap.size 5 i0 (.int .u8 0) Tryz.underlying22 hi0 hz0 hz1 hz2 rfl _ _ (by rfl) HOA.out _ _ _ _ [8,s.p] (by rfl) HTW.out (by rfl) (by omega) HBA.out.size ?_;intro v4 w4 ho4 hg4;obtain ⟨pu,cu,rfl,hyu⟩:=ho4.bytN rfl HL2.out HR2.out;have HY4:=hidden hyu;have HB4:=hidden (HBA.out.grown hg4 HBA.out.size (fun k hk=>(HOA.out.lt k hk).1));clear hyu hg4 ho4)
       | fail)
      all_goals
       have HE1:=hidden (show X++[8,s.p]++be 2 (8+2*S)=X++(be 1 8++(be 1 s.p++be 2 (8+2*S))) by rw [be1 8 (by omega) (by omega),be1 s.p hp.1 hp.2];simp)
       clear HBD HOD HBA HOA HTW HY4 HB4
       have HB5D:=hidden (HB5.out.trans (drew_below (B:=w.heap.size) (w:=w5) (w':=w5.drew) ⟨1,rfl⟩))
       have HY5D:=hidden (HY5.out.below (w':=w5.drew) (drew_below ⟨1,rfl⟩))
       go_upto_region 19 with fail
       go_region_held3 (fun w'=>w'.cell? ⟨g,k*9+1,none⟩=some (.int .i64 s.a)∧w'.cell? ⟨g,k*9+2,none⟩=some (.int .i64 s.b)) (first | exact HK2.out _ HB5D.out | exact HK2.out _ HB6.out | exact HK2.out _ HB7.out | go_keep)
        (first
        | (go_at_call 20;(with_reducible refine (rput_b q5 (X.length+4) d5 _ _ HY5D.out (by omega) s.a (by omega) 2 (by omega) (by omega) 2 rfl).mono ?_);rintro e w6 ⟨q6,m6,d6,rfl,hm,-,hy,hb6⟩;obtain rfl:m6=X.length+6:=(by rw [←hm];simp [be_len]);have HY6:=hidden hy;have HB6:=hidden (HB5D.out.trans (hb6.mono HB5D.out.size));clear hm hy hb6)
        | (go_at_call 20;(with_reducible refine (rput_b q6 (X.length+6) d6 _ _ HY6.out (by omega) s.b (by omega) 2 (by omega) (by omega) 2 rfl).mono ?_);rintro e w7 ⟨q7,m7,d7,rfl,hm,-,hy,hb7⟩;obtain rfl:m7=X.length+8:=(by rw [←hm];simp [be_len]);have HY7:=hidden hy;have HB7:=hidden (HB6.out.trans (hb7.mono HB6.out.size));clear hm hy hb7)
        | fail)
       all_goals
        clear HB5D HY5D HY5 HB5 HY6 HB6
        have HB7D:=hidden (HB7.out.trans (drew_below (B:=w.heap.size) (w:=w7) (w':=w7.drew) ⟨1,rfl⟩))
        have HY7D:=hidden (HY7.out.below (w':=w7.drew) (drew_below ⟨1,rfl⟩))
        go_upto_region 20 with fail
        go_region_held3 (fun w'=>w'.cell? ⟨g,k*9+3,none⟩=some (.int .i64 s.lo.f)∧w'.cell? ⟨g,k*9+4,none⟩=some (.int .u64 s.lo.h)∧w'.cell? ⟨g,k*9+5,none⟩=some (.int .u64 s.lo.l)∧w'.cell? ⟨g,k*9+6,none⟩=some (.int .i64 s.hi.f)∧w'.cell? ⟨g,k*9+7,none⟩=some (.int .u64 s.hi.h)∧w'.cell? ⟨g,k*9+8,none⟩=some (.int .u64 s.hi.l)) (first | exact HK3.out _ HB7D.out | exact HK3.out _ HB8.out | exact HK3.out _ HB9.out | go_keep)
         (first
         | (go_at_call 60;(with_reducible refine (rpad_any q7 (X.length+8) d7 _ _ HY7D.out (by omega) s.lo HF1.out).mono ?_);rintro e w8 ⟨q8,m8,d8,rfl,hm,-,hy,hb8⟩;have hm8:m8≤1000:=(by rw [←hm];simp [be_len,encA_len,sizeA];split<;>omega);have HY8:=hidden hy;have HB8:=hidden (HB7D.out.trans (hb8.mono HB7D.out.size));clear hm hy hb8)
         | (go_at_call 60;(with_reducible refine (rpad_any q8 m8 d8 _ _ HY8.out (by omega) s.hi HF2.out).mono ?_);rintro e w9 ⟨q9,m9,d9,rfl,-,ho9,-,hb9'⟩;have HO9:=hidden (ho9.mono HB8.out.size);have HB9:=hidden (HB8.out.trans (hb9'.mono HB8.out.size));clear ho9 hb9')
         | fail)
        all_goals
         have hO:=HO9.out
         rw [HE1.out] at hO
         have hO2:=hidden (show Own w9 w.heap.size 5 (.slice q9 m9 d9) ([(j:Int),0,0,0]++encL (l.take (k+1))) by
          rw [←HXE.out,HE.out]
          simpa only [List.append_assoc] using hO)
         clear hO HO9 HY7D HB7D HY7 HB7 HY8 HB8
         go_wp2_with fail
         go_roundw
         case rel=>exact ⟨k+1,by omega,by go_num,hO2.out,HB9.out⟩
         case measure=>simp [intOf];omega
     ·go_upto_region 18 with fail
      clear c3
      have HBA:=hidden ((HB.out.alloc HB.out.size (.cells #[.int .u8 7,.int .u8 s.p] 5)).trans (drew_below (B:=w.heap.size) (w':=(wk.alloc (.cells #[.int .u8 7,.int .u8 s.p] 5)).drew) ⟨1,rfl⟩))
      have HOA:=hidden ((HO.out.alloc (.cells #[.int .u8 7,.int .u8 s.p] 5)).below (w':=(wk.alloc (.cells #[.int .u8 7,.int .u8 s.p] 5)).drew) (drew_below ⟨1,rfl⟩))
      have HTW:Hid (Byt (wk.alloc (.cells #[.int .u8 7,.int .u8 s.p] 5)).drew (some ⟨wk.heap.size,0,none⟩) 2 2 [7,s.p]):=hidden (two_byt hK' hp (by go_simp) (by go_simp))
      go_region_held3 (fun w'=>w'.cell? ⟨g,k*9,none⟩=some (.int .i64 s.p)∧w'.cell? ⟨g,k*9+3,none⟩=some (.int .i64 s.lo.f)) (first | exact HK1.out _ HBD.out | exact HK1.out _ HBA.out | exact HK1.out _ (HBD.out.alloc HBD.out.size _) | exact HK1.out _ HB4.out | exact HK1.out _ HB5.out | go_keep)
       (first
       | (go_at_call 59;(with_reducible refine (HSZ.out _).mono ?_);rintro e w' ⟨rfl,rfl⟩)
       | (go_at_call 20;(with_reducible refine (rput_b pu (X.length+2) cu _ w4 HY4.out (by omega) (8+2*S) (by omega) 2 (by omega) (by omega) 2 rfl).mono ?_);rintro e w5 ⟨q5,m5,d5,rfl,hm,-,hy,hb5⟩;obtain rfl:m5=X.length+4:=(by rw [←hm,List.length_append,HL2.out,be_len]);have HY5:=hidden hy;have HB5:=hidden (HB4.out.trans (hb5.mono HB4.out.size));clear hm hy hb5)
       | (refine step_append_byt _ (by rfl) _ _ 22 (by rfl) w.heap.size 5 i0 (.int .u8 0) Tryz.underlying22 hi0 hz0 hz1 hz2 rfl _ _ (by rfl) HOA.out _ _ _ _ [7,s.p] (by rfl) HTW.out (by rfl) (by omega) HBA.out.size ?_;intro v4 w4 ho4 hg4;obtain ⟨pu,cu,rfl,hyu⟩:=ho4.bytN rfl HL2.out HR2.out;have HY4:=hidden hyu;have HB4:=hidden (HBA.out.grown hg4 HBA.out.size (fun k hk=>(HOA.out.lt k hk).1));clear hyu hg4 ho4)
       | fail)
      all_goals
       have HE1:=hidden (show X++[7,s.p]++be 2 (8+2*S)=X++(be 1 7++(be 1 s.p++be 2 (8+2*S))) by rw [be1 7 (by omega) (by omega),be1 s.p hp.1 hp.2];simp)
       clear HBD HOD HBA HOA HTW HY4 HB4
       have HB5D:=hidden (HB5.out.trans (drew_below (B:=w.heap.size) (w:=w5) (w':=w5.drew) ⟨1,rfl⟩))
       have HY5D:=hidden (HY5.out.below (w':=w5.drew) (drew_below ⟨1,rfl⟩))
       go_upto_region 19 with fail
       go_region_held3 (fun w'=>w'.cell? ⟨g,k*9+1,none⟩=some (.int .i64 s.a)∧w'.cell? ⟨g,k*9+2,none⟩=some (.int .i64 s.b)) (first | exact HK2.out _ HB5D.out | exact HK2.out _ HB6.out | exact HK2.out _ HB7.out | go_keep)
        (first
        | (go_at_call 20;(with_reducible refine (rput_b q5 (X.length+4) d5 _ _ HY5D.out (by omega) s.a (by omega) 2 (by omega) (by omega) 2 rfl).mono ?_);rintro e w6 ⟨q6,m6,d6,rfl,hm,-,hy,hb6⟩;obtain rfl:m6=X.length+6:=(by rw [←hm];simp [be_len]);have HY6:=hidden hy;have HB6:=hidden (HB5D.out.trans (hb6.mono HB5D.out.size));clear hm hy hb6)
        | (go_at_call 20;(with_reducible refine (rput_b q6 (X.length+6) d6 _ _ HY6.out (by omega) s.b (by omega) 2 (by omega) (by omega) 2 rfl).mono ?_);rintro e w7 ⟨q7,m7,d7,rfl,hm,-,hy,hb7⟩;obtain rfl:m7=X.length+8:=(by rw [←hm];simp [be_len]);have HY7:=hidden hy;have HB7:=hidden (HB6.out.trans (hb7.mono HB6.out.size));clear hm hy hb7)
        | fail)
       all_goals
        clear HB5D HY5D HY5 HB5 HY6 HB6
        have HB7D:=hidden (HB7.out.trans (drew_below (B:=w.heap.size) (w:=w7) (w':=w7.drew) ⟨1,rfl⟩))
        have HY7D:=hidden (HY7.out.below (w':=w7.drew) (drew_below ⟨1,rfl⟩))
        go_upto_region 20 with fail
        go_region_held3 (fun w'=>w'.cell? ⟨g,k*9+3,none⟩=some (.int .i64 s.lo.f)∧w'.cell? ⟨g,k*9+4,none⟩=some (.int .u64 s.lo.h)∧w'.cell? ⟨g,k*9+5,none⟩=some (.int .u64 s.lo.l)∧w'.cell? ⟨g,k*9+6,none⟩=some (.int .i64 s.hi.f)∧w'.cell? ⟨g,k*9+7,none⟩=some (.int .u64 s.hi.h)∧w'.cell? ⟨g,k*9+8,none⟩=some (.int .u64 s.hi.l)) (first | exact HK3.out _ HB7D.out | exact HK3.out _ HB8.out | exact HK3.out _ HB9.out | go_keep)
         (first
         | (go_at_call 60;(with_reducible refine (rpad_any q7 (X.length+8) d7 _ _ HY7D.out (by omega) s.lo HF1.out).mono ?_);rintro e w8 ⟨q8,m8,d8,rfl,hm,-,hy,hb8⟩;have hm8:m8≤1000:=(by rw [←hm];simp [be_len,encA_len,sizeA];split<;>omega);have HY8:=hidden hy;have HB8:=hidden (HB7D.out.trans (hb8.mono HB7D.out.size));clear hm hy hb8)
         | (go_at_call 60;(with_reducible refine (rpad_any q8 m8 d8 _ _ HY8.out (by omega) s.hi HF2.out).mono ?_);rintro e w9 ⟨q9,m9,d9,rfl,-,ho9,-,hb9'⟩;have HO9:=hidden (ho9.mono HB8.out.size);have HB9:=hidden (HB8.out.trans (hb9'.mono HB8.out.size));clear ho9 hb9')
         | fail)
        all_goals
         have hO:=HO9.out
         rw [HE1.out] at hO
         have hO2:=hidden (show Own w9 w.heap.size 5 (.slice q9 m9 d9) ([(j:Int),0,0,0]++encL (l.take (k+1))) by
          rw [←HXE.out,HE.out]
          simpa only [List.append_assoc] using hO)
         clear hO HO9 HY7D HB7D HY7 HB7 HY8 HB8
         go_wp2_with fail
         go_roundw
         case rel=>exact ⟨k+1,by omega,by go_num,hO2.out,HB9.out⟩
         case measure=>simp [intOf];omega
    ·obtain rfl:k=j:=by omega
     have HX:=hidden (show [(k:Int),0,0,0]++encL (l.take k)=(k:Int) :: 0 :: 0 :: 0 :: encL l by rw [List.take_of_length_le (by rw [HLen.out];omega)];rfl)
     generalize [(k:Int),0,0,0]++encL (l.take k)=X at *
     obtain ⟨rfl,rfl⟩:=Prod.mk.inj HE2.out
     clear ho hb
     go_wp2
     go_ret2
     refine ⟨_,rfl,?_,HB.out⟩
     rw [←HX.out]
     exact HO.out
end Go.Proofs.YtgpigjoonhghhaaGreat

namespace Go.Proofs.YtgpigjoonhghhaaGreat
open Go.RowKit
set_option linter.unusedVariables false
set_option maxHeartbeats 3200000 in
set_option maxRecDepth 100000 in
theorem mkpay34 (W w:World) (k:Nat) (h:Cod W w k):Calls Tryz.prog 15 #[.pointer (some ⟨k,0,none⟩),.int .i64 34] w (MadePv W w k 34):=by
 have hk:=h.lt
 have hbase:=h.bel.size
 have H0:=hidden (PyS.new h 34)
 clear h
 go_enter Tryz.func15,Tryz.ntmps15
 go_upto_region 2 with fail
 generalize hw0:(w.alloc (.cells #[.int .i64 0,.slice none 0 0,.int .i64 0,.slice none 0 0,.int .i64 0,.slice none 0 0,.int .i64 0,.slice none 0 0,.int .i64 0,.slice none 0 0,.int .i64 0,.slice none 0 0,.int .i64 0,.slice none 0 0,.slice none 0 0,.slice none 0 0] 49)).alloc (.cells #[.int .i64 34,.slice none 0 0,.int .i64 0,.slice none 0 0,.int .i64 0,.slice none 0 0,.int .i64 0,.slice none 0 0,.int .i64 0,.slice none 0 0,.int .i64 0,.slice none 0 0,.int .i64 0,.slice none 0 0,.slice none 0 0,.slice none 0 0] 49)=w0 at *
 clear hw0
 have hk0:k<w0.heap.size:=by have:=H0.out.ge;omega
 go_upto_region 2 with fail
 go_upto_block 0 with fail
 go_cut [] from 9 to 114 (fun wx=>∃ (t:Int) (p:Option Addr) (n c:Nat) (ys:List Int),PyS W w wx k ⟨34,nilV,t,⟨p,n,c⟩,0,nilV,0,nilV,0,nilV,0,nilV,0,nilV,nilV,nilV⟩∧(0≤t∧t≤65535)∧((t=31∨t=1024)∧n=8)∧∀ w',Kpt wx w' (w.heap.size+2)→Byt w' p n c ys)
 case first =>
  go_wp2_with fail
  go_region_law (first
   | (go_simp;go_at_call_of 10 (Value.int IntKind.i64 2);(with_reducible refine (next_pa H0 hk _ ?_ _ ?_).mono ?_);(repeat' (first | with_reducible exact H0.out | (with_reducible refine PyS.alloc ?_ _) | (with_reducible refine PyS.drew ?_)));omega;rintro e wA ⟨j,rfl,j0,j1,hdA,hgA⟩;obtain ⟨j,rfl⟩:=Int.eq_ofNat_of_zero_le j0;obtain ⟨t,hta,htl,t0,t1,tv⟩:=lst34 j (by omega);(try have hcA:wA.cell? ⟨w0.heap.size,j,none⟩=some (.int .i64 t):=row_cell w0 wA k _ _ j _ htl hk0 (grown_trans (grown_drewN _ 1 _) hgA)))
   | (go_simp;go_at_call 34;(refine (bytes_pa H0 hk _ ?_ 8 ?_).mono ?_);(first | exact hdA | exact hdA.alloc _);omega;rintro e wY ⟨p,c,ys,rfl,hbY,hdY,hgY⟩;have hkA:=hdA.cod.lt;(try have hcY1:wY.cell? ⟨w0.heap.size,j,none⟩=some (.int .i64 t):=hgY.cell hcA (by simp;omega));(try have hcY3:wY.cell? ⟨wA.heap.size,j,none⟩=some (.int .i64 t):=row_cell wA wY k _ _ j _ htl hkA hgY);have hn1:¬ w.heap.size+1=wY.heap.size:=(by have:=hdY.ge;omega);have hn2:¬ w.heap.size=wY.heap.size:=(by have:=hdY.ge;omega);have hn3:¬ wY.heap.size=w.heap.size+1:=(by have:=hdY.ge;omega);have hn4:¬ wY.heap.size=w.heap.size:=(by have:=hdY.ge;omega);have hq1:w.heap.size+1<wY.heap.size:=(by have:=hdY.ge;omega);have hq2:w.heap.size<wY.heap.size:=(by have:=hdY.ge;omega);have s2:=hdY.S.c2;have s3:=hdY.S.c3;have sf:=hdY.S.fr;simp only [zeroP,nilV] at s2 s3;have HDY:=hidden hdY;have HBY:=hidden hbY;clear hdY hbY))
  all_goals
   clear s2 s3 sf
   go_wp2
   go_meet
  all_goals first
   | (have q:=hcY1;clear q;exact ⟨t,p,8,c,ys,(HDY.out.put hk hbase (wy:=((wY.setCell ⟨w.heap.size+1,2,none⟩ (.int .i64 t)).setCell ⟨w.heap.size+1,3,none⟩ (.slice p 8 c))) (grown_trans (grown_set _ _ _ _) (grown_set _ _ _ _)) (x':=⟨34,nilV,t,⟨p,8,c⟩,0,nilV,0,nilV,0,nilV,0,nilV,0,nilV,nilV,nilV⟩) (HDY.out.S.setE t ⟨p,8,c⟩)),⟨t0,t1⟩,⟨tv,rfl⟩,fun w' hk'=>HBY.out.kp (((Kpt.low (grown_set _ _ _ _) (by omega)).trans (Kpt.low (grown_set _ _ _ _) (by omega))).trans hk')⟩)
   | (have q:=hcY3;clear q;exact ⟨t,p,8,c,ys,(HDY.out.put hk hbase (wy:=((wY.setCell ⟨w.heap.size+1,2,none⟩ (.int .i64 t)).setCell ⟨w.heap.size+1,3,none⟩ (.slice p 8 c))) (grown_trans (grown_set _ _ _ _) (grown_set _ _ _ _)) (x':=⟨34,nilV,t,⟨p,8,c⟩,0,nilV,0,nilV,0,nilV,0,nilV,0,nilV,nilV,nilV⟩) (HDY.out.S.setE t ⟨p,8,c⟩)),⟨t0,t1⟩,⟨tv,rfl⟩,fun w' hk'=>HBY.out.kp (((Kpt.low (grown_set _ _ _ _) (by omega)).trans (Kpt.low (grown_set _ _ _ _) (by omega))).trans hk')⟩)
   | (exact ⟨t,p,8,c,ys,(HDY.out.put hk hbase (wy:=((wY.setCell ⟨w.heap.size+1,2,none⟩ (.int .i64 t)).setCell ⟨w.heap.size+1,3,none⟩ (.slice p 8 c))) (grown_trans (grown_set _ _ _ _) (grown_set _ _ _ _)) (x':=⟨34,nilV,t,⟨p,8,c⟩,0,nilV,0,nilV,0,nilV,0,nilV,0,nilV,nilV,nilV⟩) (HDY.out.S.setE t ⟨p,8,c⟩)).alloc _,⟨t0,t1⟩,⟨tv,rfl⟩,fun w' hk'=>HBY.out.kp ((((Kpt.low (grown_set _ _ _ _) (by omega)).trans (Kpt.low (grown_set _ _ _ _) (by omega))).trans (Kpt.alloc _ _ _)).trans hk')⟩)
 case rest =>
  obtain ⟨t,p,n,c,ys,hd,ht,hv,hy⟩:=hcut
  have HV:=hidden hv
  clear hv
  have H2:=hidden hd
  have HY:=hidden hy
  have HT:=hidden ht
  rename World=>w2
  clear hd hy ht
  obtain ⟨y0,y1,y2,y3,y4,y5,y6,y7,y8,y9,y10,y11,y12,y13,y14,y15,z0_,z1_,z2_,z3_,z4_,z5_,z6_,z7_,z8_,z9_,z10_,z11_,z12_,z13_,z14_,z15_,zf⟩:=H2.out.R.any
  obtain ⟨s0,s1,s2,s3,s4,s5,s6,s7,s8,s9,s10,s11,s12,s13,s14,s15,sf⟩:=H2.out.S
  simp only [nilV] at s0 s1 s2 s3 s4 s5 s6 s7 s8 s9 s10 s11 s12 s13 s14 s15
  go_wp2
  have hz:=H2.out.ret hk hbase (wy:=w2) (grown_refl _ _) ⟨34,nilV,t,⟨p,n,c⟩,0,nilV,0,nilV,0,nilV,0,nilV,0,nilV,nilV,nilV⟩
  simp only [setPv,nilV] at hz
  exact ret_pv1 (g:=w.heap.size) rfl rfl rfl hz.1 (made_plain (C:={ C0 with ed:=ys }) rfl rfl rfl (fun w' hk'=>⟨rdg_nil _ _ _,HY.out w' hk',byt_nil _,byt_nil _,byt_nil _,byt_nil _,rdg_nil _ _ _,rdg_nil _ _ _,byt_nil _⟩) hz.2.1 hz.2.2.1 hz.2.2.2 ((vld34 rfl).2 HV.out))
end Go.Proofs.YtgpigjoonhghhaaGreat
