/-
 Package payload's reader of deletions.
-/
import Derived.Test.YtgpigjoonhghhaaGreatQZ5
import Derived.Test.YtgpigjoonhghhaaGreatQZ1
import Derived.Test.YtgpigjoonhghhaaGreatQZ2
import Derived.Deep.Cut
import Derived.Deep.CutRange
import Derived.Deep.RegionHeld3
namespace Go.Proofs.YtgpigjoonhghhaaGreat
open Go.RowKit
set_option linter.unusedVariables false
set_option linter.unusedSimpArgs false
def spisL (ys:List Int) (z m:Nat):List (List Int):=(List.range m).map fun i=>(ys.drop (i*z)).take z
def delE (xs:List Int) (n:Nat):Int :=
 if n<4 then 1 else if deleteE (nthB xs 0) (nthB xs 1) (nthB xs 2*256+nthB xs 3)≠0 then deleteE (nthB xs 0) (nthB xs 1) (nthB xs 2*256+nthB xs 3)
 else if (n:Int) - 4≠nthB xs 1*(nthB xs 2*256+nthB xs 3) then 2 else spisX (nthB xs 0) (spisL (xs.drop 4) (nthB xs 1).toNat (nthB xs 2*256+nthB xs 3).toNat)
theorem deleteE_ok (k s t:Int) (h:deleteE k s t=0):(s=0∧t=0∧k=1)∨(s=4∧(k=2∨k=3)):=by
 unfold deleteE at h
 by_cases h1:k≠1∧k≠2∧k≠3
 ·rw [if_pos h1] at h
  exact absurd h (by decide)
 rw [if_neg h1] at h
 by_cases h2:s=(spiZ k:Int)∧¬ (k=1∧t≠0)
 ·obtain ⟨h2,h3⟩:=h2
  unfold spiZ at h2
  by_cases h4:k=2∨k=3
  ·rw [if_pos h4] at h2
   exact Or.inr ⟨h2,h4⟩
  ·rw [if_neg h4] at h2
   have h5:s=0:=h2
   omega
 ·rw [if_neg h2] at h
  exact absurd h (by decide)
structure DlIn (w:World) (g:Nat) (k:Int) (v:Value):Prop where
 c0:w.cell? ⟨g,0,none⟩=some (.int .i64 k)
 c1:w.cell? ⟨g,1,none⟩=some v
 fr : ∀ j,w.frozen? ⟨g,j,none⟩=false
theorem DlIn.lt {w:World} {g:Nat} {k:Int} {v:Value} (h:DlIn w g k v):g<w.heap.size:=World.block_lt_of_cell? w _ h.c0
theorem DlIn.grown {w w':World} {g:Nat} {k:Int} {v:Value} {row:Option Nat} (h:DlIn w g k v) (hg:w.grownBy w' row) (hne:some g≠row):DlIn w' g k v :=
 ⟨hg.cell h.c0 hne,hg.cell h.c1 hne,fun j=>(World.frozen?_of_block (a:=⟨g,j,none⟩) (hg.block g h.lt hne)).trans (h.fr j)⟩
theorem DlIn.below {w w':World} {g:Nat} {k:Int} {v:Value} (h:DlIn w g k v) (hb:Below w.heap.size w w'):DlIn w' g k v:=h.grown (row:=none) (grown_of_below hb none) (by simp)
theorem DlIn.new (w:World) (k:Int) (T:TypeId):DlIn (w.alloc (.cells #[.int .i64 k,.slice none 0 0] T)) w.heap.size k (.slice none 0 0) :=
 ⟨by go_simp,by go_simp,fun j=>by go_simp⟩
theorem DlIn.setV {w:World} {g:Nat} {k:Int} {v:Value} (h:DlIn w g k v) (u:Value):DlIn (w.setCell ⟨g,1,none⟩ u) g k u:=by
 obtain ⟨c0,c1,fr⟩:=h
 exact ⟨by go_simp,by go_simp,fun j=>by simp only [World.frozen?_setCell];exact fr j⟩
set_option maxHeartbeats 6400000 in
set_option maxRecDepth 100000 in
theorem deletion_read (p:Option Addr) (n c:Nat) (xs:List Int) (w:World) (h:Byt w p n c xs) (hb:n≤140737488355328) :
  Calls Tryz.prog 88 #[.slice p n c] w (ReadPv w (delE xs n) fun w' x=>x.dp=nthB xs 0∧∃ l:List Sb,RowG KSb NSb w' w.heap.size (.slice x.ds.p x.ds.n x.ds.c) l∧l.map Sb.xs=spisL (xs.drop 4) (nthB xs 1).toNat (nthB xs 2*256+nthB xs 3).toNat):=by
 have hn:=h.le
 have H1:=hidden (h.alloc (.cells #[.int .i64 0,.slice none 0 0,.int .i64 0,.slice none 0 0,.int .i64 0,.slice none 0 0,.int .i64 0,.slice none 0 0,.int .i64 0,.slice none 0 0,.int .i64 0,.slice none 0 0,.int .i64 0,.slice none 0 0,.slice none 0 0,.slice none 0 0] 49))
 have HB:=hidden ((Below.refl w.heap.size w).alloc (Nat.le_refl _) (.cells #[.int .i64 0,.slice none 0 0,.int .i64 0,.slice none 0 0,.int .i64 0,.slice none 0 0,.int .i64 0,.slice none 0 0,.int .i64 0,.slice none 0 0,.int .i64 0,.slice none 0 0,.int .i64 0,.slice none 0 0,.slice none 0 0,.slice none 0 0] 49))
 have HZ:Hid (PvIn (w.alloc (.cells #[.int .i64 0,.slice none 0 0,.int .i64 0,.slice none 0 0,.int .i64 0,.slice none 0 0,.int .i64 0,.slice none 0 0,.int .i64 0,.slice none 0 0,.int .i64 0,.slice none 0 0,.int .i64 0,.slice none 0 0,.slice none 0 0,.slice none 0 0] 49)) w.heap.size zeroP):=hidden (PvIn.new w zeroP 49)
 have b0:=nthB_rng h.rng 0
 have b1:=nthB_rng h.rng 1
 have b2:=nthB_rng h.rng 2
 have b3:=nthB_rng h.rng 3
 have HXL:=Is.mk h.len
 obtain ⟨E,hE⟩ : ∃ E,delE xs n=E:=⟨_,rfl⟩
 rw [hE]
 unfold delE at hE
 by_cases h4:n<4
 ·rw [if_pos h4] at hE
  subst hE
  clear h
  go_enter Tryz.func88,Tryz.ntmps88
  go_wp2_with (first
   | (go_at_call 101;(with_reducible refine (split_any _ _ _ _ _ H1.out hb).mono ?_);rintro e w2 ⟨hb2,⟨-,rfl⟩ | ⟨k4,-⟩⟩;rotate_left;(exact absurd k4 (by omega));have HB2:=hidden ((HB.out.trans (hb2.mono HB.out.size)).alloc (HB.out.trans (hb2.mono HB.out.size)).size (.cells #[.int .u8 0,.int .u8 0,.int .u8 0,.int .u8 0] 164));have HZ2:=hidden ((HZ.out.below hb2).alloc (.cells #[.int .u8 0,.int .u8 0,.int .u8 0,.int .u8 0] 164));obtain ⟨y0,y1,y2,y3,y4,y5,y6,y7,y8,y9,y10,y11,y12,y13,y14,y15,z0,z1,z2,z3,z4,z5,z6,z7,z8,z9,z10,z11,z12,z13,z14,z15,zf⟩:=HZ2.out.any;clear hb2)
   | fail)
  have hz:=stored_pv HZ2.out HB2.out (Nat.le_refl _) zeroP
  simp only [setPv,zeroP,nilV] at hz
  exact ret_pv (g:=w.heap.size) rfl rfl rfl rfl hz.1 ⟨_,rfl,hz.2,fun h=>by cases h⟩
 rw [if_neg h4] at hE
 have HV0:=hidden (show val (([nthB xs 0,nthB xs 1,nthB xs 2,nthB xs 3].drop 0).take 1)=nthB xs 0 by simp [val])
 have HV1:=hidden (show val (([nthB xs 0,nthB xs 1,nthB xs 2,nthB xs 3].drop 1).take 1)=nthB xs 1 by simp [val])
 have HV2:=hidden (show val (([nthB xs 0,nthB xs 1,nthB xs 2,nthB xs 3].drop 2).take 2)=nthB xs 2*256+nthB xs 3 by simp [val])
 have hlen:=h.len
 clear h
 go_enter Tryz.func88,Tryz.ntmps88
 go_upto_region 4 with (first
  | (go_at_call 101;(with_reducible refine (split_any _ _ _ _ _ H1.out hb).mono ?_);rintro e w2 ⟨hb2,⟨k4,-⟩ | ⟨-,q2,d2,rfl,hf⟩⟩;(exact absurd k4 h4);have HB2:=hidden ((HB.out.trans (hb2.mono HB.out.size)).alloc (HB.out.trans (hb2.mono HB.out.size)).size (.cells #[.int .u8 (nthB xs 0),.int .u8 (nthB xs 1),.int .u8 (nthB xs 2),.int .u8 (nthB xs 3)] 164));have HZ2:=hidden ((HZ.out.below hb2).alloc (.cells #[.int .u8 (nthB xs 0),.int .u8 (nthB xs 1),.int .u8 (nthB xs 2),.int .u8 (nthB xs 3)] 164));have HF2:=hidden (hf.alloc (.cells #[.int .u8 (nthB xs 0),.int .u8 (nthB xs 1),.int .u8 (nthB xs 2),.int .u8 (nthB xs 3)] 164));clear hb2 hf)
  | fail)
 have d0:(w2.alloc (.cells #[.int .u8 (nthB xs 0),.int .u8 (nthB xs 1),.int .u8 (nthB xs 2),.int .u8 (nthB xs 3)] 164)).cell? ⟨w2.heap.size,0,none⟩=some (.int .u8 (nthB xs 0)):=by go_simp
 have d1:(w2.alloc (.cells #[.int .u8 (nthB xs 0),.int .u8 (nthB xs 1),.int .u8 (nthB xs 2),.int .u8 (nthB xs 3)] 164)).cell? ⟨w2.heap.size,1,none⟩=some (.int .u8 (nthB xs 1)):=by go_simp
 have d2':(w2.alloc (.cells #[.int .u8 (nthB xs 0),.int .u8 (nthB xs 1),.int .u8 (nthB xs 2),.int .u8 (nthB xs 3)] 164)).cell? ⟨w2.heap.size,2,none⟩=some (.int .u8 (nthB xs 2)):=by go_simp
 have d3:(w2.alloc (.cells #[.int .u8 (nthB xs 0),.int .u8 (nthB xs 1),.int .u8 (nthB xs 2),.int .u8 (nthB xs 3)] 164)).cell? ⟨w2.heap.size,3,none⟩=some (.int .u8 (nthB xs 3)):=by go_simp
 generalize hw3:w2.alloc (.cells #[.int .u8 (nthB xs 0),.int .u8 (nthB xs 1),.int .u8 (nthB xs 2),.int .u8 (nthB xs 3)] 164)=w3 at *
 have hgf:w2.heap.size<w3.heap.size:=by rw [←hw3];simp
 generalize w2.heap.size=gf at *
 have HD:=hidden (fun W (hW:Below w3.heap.size w3 W)=>(⟨cell_below hW _ _ d0,cell_below hW _ _ d1,cell_below hW _ _ d2',cell_below hW _ _ d3⟩:W.cell? ⟨gf,0,none⟩=some (.int .u8 (nthB xs 0))∧W.cell? ⟨gf,1,none⟩=some (.int .u8 (nthB xs 1))∧W.cell? ⟨gf,2,none⟩=some (.int .u8 (nthB xs 2))∧W.cell? ⟨gf,3,none⟩=some (.int .u8 (nthB xs 3))))
 have HFN1:=hidden (fun W=>fnumber_any (nthB xs 0) (nthB xs 1) (nthB xs 2) (nthB xs 3) b0 b1 b2 b3 0 1 0 1 rfl rfl (by omega) (by omega) _ HV0.out W)
 have HFN2:=hidden (fun W=>fnumber_any (nthB xs 0) (nthB xs 1) (nthB xs 2) (nthB xs 3) b0 b1 b2 b3 2 2 2 2 rfl rfl (by omega) (by omega) _ HV2.out W)
 have HFN3:=hidden (fun W=>fnumber_any (nthB xs 0) (nthB xs 1) (nthB xs 2) (nthB xs 3) b0 b1 b2 b3 1 1 1 1 rfl rfl (by omega) (by omega) _ HV1.out W)
 clear hw3
 go_upto_region 5 with (first
  | (go_at_call 102;(with_reducible refine (HFN1.out w3).mono ?_);rintro e w4 ⟨rfl,hb4⟩;have HB4:=hidden hb4;clear hb4)
  | fail)
 have HNG:=hidden (DlIn.new w4 (nthB xs 0) 46)
 have HB5:=hidden (HB4.out.alloc HB4.out.size (.cells #[.int .i64 (nthB xs 0),.slice none 0 0] 46))
 have hg3:w3.heap.size≤w4.heap.size:=HB4.out.size
 generalize hw5:w4.alloc (.cells #[.int .i64 (nthB xs 0),.slice none 0 0] 46)=w5 at *
 generalize w4.heap.size=g at *
 have HR0:=hidden (show Below w5.heap.size w5 w5.drew from (Below.refl _ _).drew)
 have HD5:=hidden (fun W (hW:Below w5.heap.size w5 W)=>HD.out W (HB5.out.trans (hW.mono HB5.out.size)))
 clear hw5 HFN1
 go_cut [8,9] from 27 to 30 (fun a b wx=>a=.int .i64 (nthB xs 1)∧b=.int .i64 (nthB xs 2*256+nthB xs 3)∧Below w5.heap.size w5 wx)
 case first =>
  go_region_held3 (fun w'=>w'.cell? ⟨gf,0,none⟩=some (.int .u8 (nthB xs 0))∧w'.cell? ⟨gf,1,none⟩=some (.int .u8 (nthB xs 1))∧w'.cell? ⟨gf,2,none⟩=some (.int .u8 (nthB xs 2))∧w'.cell? ⟨gf,3,none⟩=some (.int .u8 (nthB xs 3))) (first | exact hk6 | exact hk7 | exact HD5.out _ HR0.out | go_keep)
   (first
   | (go_at_call 102;(with_reducible refine (HFN3.out _).mono ?_);rintro e w6 ⟨rfl,hb6⟩;have HB6:Hid (Below w5.heap.size w5 w6):=hidden (by first | exact HB7.out.trans (hb6.mono HB7.out.size) | exact HR0.out.trans (hb6.mono HR0.out.size));have hk6:=HD5.out w6 HB6.out;clear hb6)
   | (go_at_call 102;(with_reducible refine (HFN2.out _).mono ?_);rintro e w7 ⟨rfl,hb7⟩;have HB7:Hid (Below w5.heap.size w5 w7):=hidden (by first | exact HB6.out.trans (hb7.mono HB6.out.size) | exact HR0.out.trans (hb7.mono HR0.out.size));have hk7:=HD5.out w7 HB7.out;clear hb7)
   | fail)
  all_goals
   go_wp2_with fail
   go_meet
  all_goals
   first
    | exact ⟨rfl,rfl,HB7.out⟩
    | exact ⟨rfl,rfl,HB6.out⟩
 case rest =>
  obtain ⟨rfl,rfl,hbc⟩:=hcut
  have HNC:=hidden (HNG.out.below hbc)
  have HBC:=hidden (HB5.out.trans (hbc.mono HB5.out.size))
  obtain ⟨E1,hE1⟩ : ∃ E1,deleteE (nthB xs 0) (nthB xs 1) (nthB xs 2*256+nthB xs 3)=E1:=⟨_,rfl⟩
  rw [hE1] at hE
  have HCN:=hidden (checkDelete_any (nthB xs 0) (nthB xs 1) (nthB xs 2*256+nthB xs 3) wc E1 hE1)
  have hszb:w.heap.size<w3.heap.size:=HZ2.out.lt
  have HL4:=Is.mk (show (xs.drop 4).length=n - 4 by rw [List.length_drop,hlen])
  generalize hP0:nthB xs 0=P0 at *
  generalize hS1:nthB xs 1=S1 at *
  have hTr:0≤nthB xs 2*256+nthB xs 3∧nthB xs 2*256+nthB xs 3≤65535:=by omega
  generalize hT:nthB xs 2*256+nthB xs 3=T at *
  have HP0:=Is.mk hP0
  have HS1:=Is.mk hS1
  have HT1:=Is.mk hT
  clear hP0 hS1 hT
  clear hbc HFN2 HFN3 HR0 HD5 HV0 HV1 HV2 HNG HB5
  obtain ⟨c0,c1,cf⟩:=HNC.out
  go_upto_region 7 with (first
   | (go_at_call 109;(with_reducible refine (HCN.out).mono ?_);rintro e w6 ⟨rfl,rfl⟩)
   | fail)
  have HZ5:=hidden (HZ2.out.below (HBC.out))
  have HBW5:=hidden (HB2.out.trans (HBC.out.mono HB2.out.size))
  by_cases hE0:E1≠0
  ·rw [if_pos hE0] at hE
   subst hE
   have hEn:(E1 != 0)=true:=by simp [hE0]
   obtain ⟨z0,z1,z2,z3,z4,z5,z6,z7,z8,z9,z10,z11,z12,z13,z14,z15,zf⟩:=HZ5.out
   have hz:=stored_pv HZ5.out HBW5.out (Nat.le_refl _) zeroP
   simp only [setPv,zeroP,nilV] at hz
   have HZZ:=hidden hz
   clear hz
   go_wp2
   exact ret_pv (g:=w.heap.size) rfl rfl rfl rfl HZZ.out.1 ⟨_,rfl,HZZ.out.2,fun h=>absurd h hE0⟩
  rw [if_neg hE0] at hE
  have hEe:E1=0:=by omega
  subst hEe
  have hcase:(S1=0∧T=0∧P0=1)∨(S1=4∧(P0=2∨P0=3)):=deleteE_ok P0 S1 T hE1
  obtain ⟨Z,rfl⟩:=Int.eq_ofNat_of_zero_le (show 0≤S1 by omega)
  obtain ⟨M,rfl⟩:=Int.eq_ofNat_of_zero_le (show 0≤T by omega)
  have hcs:(Z=0∧M=0)∨Z=4:=by omega
  have hw:IntKind.i64.wrap ((Z:Int)*(M:Int))=((Z*M:Nat):Int):=by
   rw [IntKind.wrap_i64]
   rcases hcs with ⟨rfl,rfl⟩ | rfl<;>simp<;>omega
  clear hE1 hcase hE0
  have hbm:(n:Int) - 4=((n - 4:Nat):Int):=by omega
  by_cases hlm:n - 4=Z*M
  rotate_left
  ·have hne:(((n - 4:Nat):Int) != ((Z*M:Nat):Int))=true:=by simp;omega
   rw [if_pos (by rw [hbm,←Int.natCast_mul];omega)] at hE
   subst hE
   obtain ⟨z0,z1,z2,z3,z4,z5,z6,z7,z8,z9,z10,z11,z12,z13,z14,z15,zf⟩:=HZ5.out
   have hz:=stored_pv HZ5.out HBW5.out (Nat.le_refl _) zeroP
   simp only [setPv,zeroP,nilV] at hz
   have HZZ:=hidden hz
   clear hz
   go_wp2
   exact ret_pv (g:=w.heap.size) rfl rfl rfl rfl HZZ.out.1 ⟨_,rfl,HZZ.out.2,fun h=>by cases h⟩
  have hne:(((n - 4:Nat):Int) != ((Z*M:Nat):Int))=false:=by simp;omega
  have hne2:(((n - 4:Nat):Int) != (Z:Int)*(M:Int))=false:=by rw [←Int.natCast_mul];exact hne
  rw [if_neg (by rw [hbm,←Int.natCast_mul];omega)] at hE
  have HLM:=Is.mk hlm
  clear HZ5 HBW5 hlm
  go_wp2_with fail
  have hys:=HF2.out.byt
  have HY:=hidden (fun W (hW:Below w3.heap.size w3 W)=>hys.below hW)
  have hgw:w.heap.size+1≤w3.heap.size:=by omega
  have HSP0:spisL (xs.drop 4) Z 0=[]:=rfl
  go_loopw [48] (fun v wr=>∃ (j:Nat) (l:List Sb) (s:Value),j≤M∧v=.int .i64 j∧l.length=j∧DlIn wr g P0 s∧RowG KSb NSb wr (g+1) s l∧l.map Sb.xs=spisL (xs.drop 4) Z j∧Below w3.heap.size w3 wr) (fun v _=>M - (intOf v).toNat)
  case atStart=>exact ⟨0,[],_,by omega,rfl,rfl,HNC.out,RowG.nil _ _ _ _,rfl,HBC.out⟩
  case round =>
   obtain ⟨j,l,s,hj,rfl,hl,hdl,hrow,hxs,hb⟩:=hrel
   have HDL:=hidden hdl
   have HRW:=hidden hrow
   have HB:=hidden hb
   have HLJ:=Is.mk hl
   have HXS:=Is.mk hxs
   have hgs:=hdl.lt
   clear hdl hrow hb hl hxs
   by_cases hlt:j<M
   ·have hlt':(j:Int)<M:=by omega
    have hZ4:Z=4:=by
     rcases hcs with ⟨_,h0⟩ | h4
     ·omega
     ·exact h4
    obtain ⟨Y,hY⟩ : ∃ Y,((xs.drop 4).drop (j*Z)).take Z=Y:=⟨_,rfl⟩
    have HSL:=hidden (fun (a k:Int) (ha:a=(j:Int)*(Z:Int)) (hk:k=(Z:Int))=>show Calls Tryz.prog 80 #[.slice q2 (n - 4) d2,.int .i64 a,.int .i64 k] wr (BodOk wr (Y,true)) by
     have hlm:=HLM.eq
     rw [hZ4] at ha hk hlm
     have hpe:pieceR (xs.drop 4) a k=(((xs.drop 4).drop (j*Z)).take Z,true):=by
      unfold pieceR
      rw [hZ4,if_pos (by rw [HL4.eq];omega),hk,show a.toNat=j*4 by omega]
      rfl
     have:=slice_bod q2 (n - 4) d2 (xs.drop 4) wr (HY.out wr HB.out) (by omega) a k (by omega) (by omega)
     rw [hpe,hY] at this
     exact this)
    have hsucc:spisL (xs.drop 4) Z (j+1)=spisL (xs.drop 4) Z j++[((xs.drop 4).drop (j*Z)).take Z]:=by simp [spisL,List.range_succ]
    rw [hY] at hsucc
    have HSU:=Is.mk hsucc
    have hwj:IntKind.i64.wrap ((j:Int)*(Z:Int))=(j:Int)*(Z:Int):=by
     rw [IntKind.wrap_i64,hZ4]
     omega
    have HZ44:=Is.mk hZ4
    clear hZ4
    clear hY hsucc
    go_wp2_with (first
     | (go_at_call 80;go_loud ((with_reducible refine (HSL.out _ _ ?_ ?_).mono ?_);(first | rfl | omega | (push_cast;omega));(first | rfl | omega);rintro e w6 ⟨p6,n6,c6,rfl,hbod,hb6⟩;have HB6:=hidden (HB.out.trans (hb6.mono HB.out.size));have HO6:=hidden (hbod.mono (show g+1≤wr.heap.size from hgs));have HR6:=hidden (HRW.out.below hb6);have HD6:=hidden (HDL.out.below hb6);have hs6:g+1≤w6.heap.size:=(by have:=hb6.size;omega);obtain ⟨e0,e1,ef⟩:=HD6.out;clear hbod hb6))
     | (at_builtin;go_loud (refine wpList_append_g knownSb (by simp [NSb,KSb]) _ rfl _ _ rfl (g+1) _ l rfl (HR6.out.alloc _) _ 1 1 [⟨p6,n6,c6,Y⟩] rfl (srcSb w6 ⟨p6,n6,c6,Y⟩ _) (fun x hx=>by rw [List.mem_singleton.1 hx];exact HO6.out.alloc _) ?b1 ?b2 ?b3 ?_))
     | fail)
    case b1=>rw [HLJ.eq];unfold maxLen;omega
    case b2=>rw [HLJ.eq];omega
    case b3=>simp;omega
    intro v7 w7 hr7 hg7
    obtain ⟨p7,c7,rfl⟩:=hr7.form (n:=j+1) (by simp [HLJ.eq])
    have hown : ∀ k,s.ownBlock=some k→g+1≤k:=fun k hk=>(HR6.out.lt k hk).1
    have HB7:=hidden ((HB6.out.alloc HB6.out.size _).grown hg7 (by have:=HB6.out.size;simp;omega) (fun k hk=>by have:=hown k hk;omega))
    have HD7:=hidden ((HD6.out.below ((Below.refl _ _).alloc (Nat.le_refl _) _)).grown hg7 (by intro e;have:=hown g e.symm;omega))
    have HR8:=hidden (hr7.low (grown_set w7 g 1 (.slice p7 (j+1) c7)) (Nat.lt_succ_self g))
    have HD8:=hidden (HD7.out.setV (.slice p7 (j+1) c7))
    have HB8:=hidden (HB7.out.setCell (p:=⟨g,1,none⟩) hg3 (.slice p7 (j+1) c7))
    obtain ⟨f0',f1',ff'⟩:=HD7.out
    clear hr7 hg7 HR6 HO6 HB6 HSL HRW HB e0 e1 ef hown
    go_wp2
    go_roundw
    case rel=>exact ⟨j+1,l++[⟨p6,n6,c6,Y⟩],.slice p7 (j+1) c7,by omega,by go_num,by simp [HLJ.eq],HD8.out,HR8.out,by rw [List.map_append,HSU.eq,HXS.eq];rfl,HB8.out⟩
    case measure=>simp [intOf];omega
   ·have hlt':¬ (j:Int)<M:=by omega
    obtain rfl:j=M:=by omega
    obtain ⟨ps,cs,rfl,hrd⟩:=HRW.out.sbs HLJ.eq
    have hse:spisE P0 l=E:=by
     rw [spisE_xs,HXS.eq]
     simpa using hE
    have HCS:=hidden (fun W (hW:Below wr.heap.size wr W)=>checkSpis_any P0 ps j cs l W (hrd.below hW))
    rw [hse] at HCS
    have hdl:=HDL.out
    have HK:=hidden (fun wx (hb:Below wr.heap.size wr wx)=>(⟨cell_below hb _ _ hdl.c0,cell_below hb _ _ hdl.c1⟩:wx.cell? ⟨g,0,none⟩=some (.int .i64 P0)∧wx.cell? ⟨g,1,none⟩=some (.slice ps j cs)))
    have HZ4:=hidden (HZ2.out.below HB.out)
    have HB4:=hidden (HB2.out.trans (HB.out.mono HB2.out.size))
    have HBD:=hidden (show Below wr.heap.size wr wr.drew from drew_below ⟨1,rfl⟩)
    have HZD:=hidden (HZ4.out.below (w':=wr.drew) HBD.out)
    obtain ⟨d0',d1'⟩:=HK.out _ HBD.out
    have HKG:=hidden (show w.heap.size<g+1 from by omega)
    obtain ⟨y0,y1,y2,y3,y4,y5,y6,y7,y8,y9,y10,y11,y12,y13,y14,y15,z0,z1,z2,z3,z4,z5,z6,z7,z8,z9,z10,z11,z12,z13,z14,z15,zf⟩:=HZD.out.any
    have hnw:¬ g=w.heap.size:=by omega
    clear hrd hse hdl hE
    go_upto_region 17 with fail
    go_region_with
     (first
     | (go_at_call 110;(with_reducible refine (HCS.out _ HBD.out).mono ?_);rintro e w5 ⟨rfl,hbc⟩;have hB:=HBD.out.trans hbc;have HB5:=hidden (HB4.out.trans (hB.mono HB4.out.size));have HZ5:=hidden (HZ4.out.below hB);have HF5:=hidden (HRW.out.below hB);obtain ⟨d0',d1'⟩:=HK.out _ hB;clear z0 z1 z2 z3 z4 z5 z6 z7 z8 z9 z10 z11 z12 z13 z14 z15 zf y0 y1 y2 y3 y4 y5 y6 y7 y8 y9 y10 y11 y12 y13 y14 y15;obtain ⟨y0,y1,y2,y3,y4,y5,y6,y7,y8,y9,y10,y11,y12,y13,y14,y15,z0,z1,z2,z3,z4,z5,z6,z7,z8,z9,z10,z11,z12,z13,z14,z15,zf⟩:=HZ5.out.any;clear hB)
     | fail)
    all_goals
     have hz:=stored_pv HZ5.out HB5.out (Nat.le_refl _) ⟨0,nilV,0,nilV,0,nilV,0,nilV,0,nilV,0,nilV,P0,⟨ps,j,cs⟩,nilV,nilV⟩
     have hfl:=(HF5.out.low (setPv_grown w5 w.heap.size ⟨0,nilV,0,nilV,0,nilV,0,nilV,0,nilV,0,nilV,P0,⟨ps,j,cs⟩,nilV,nilV⟩) HKG.out).mono (Nat.le_of_lt HKG.out)
     simp only [setPv,nilV] at hz hfl
     have HZZ:=hidden hz
     have HFF:=hidden hfl
     clear hz hfl hbc
     go_wp2
     exact ret_pv (g:=w.heap.size) rfl rfl rfl rfl HZZ.out.1 ⟨_,rfl,HZZ.out.2,fun _=>⟨HP0.eq.symm,l,HFF.out,by rw [HS1.eq,HT1.eq];simpa using HXS.eq⟩⟩
end Go.Proofs.YtgpigjoonhghhaaGreat
