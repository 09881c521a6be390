/-
 Package payload's reader of notifications.
-/
import Derived.Test.YtgpigjoonhghhaaGreatQZ5
import Derived.Test.YtgpigjoonhghhaaGreatQZ2
import Derived.Deep.Cut
import Derived.Deep.CutRange
import Derived.Deep.RegionHeld3
namespace Go.Proofs.YtgpigjoonhghhaaGreat
open Go.RowKit
set_option linter.unusedVariables false
set_option linter.unusedSimpArgs false
def noteE (xs:List Int) (n:Nat):Int :=
 if n<4 then 1 else if notifyE (nthB xs 0) (nthB xs 2*256+nthB xs 3) (nthB xs 1)≠0 then notifyE (nthB xs 0) (nthB xs 2*256+nthB xs 3) (nthB xs 1)
 else if (n:Int) - 4<nthB xs 1 then 2 else 0
structure NtIn (w:World) (g:Nat) (a t:Int) (s d:Sv):Prop where
 c0:w.cell? ⟨g,0,none⟩=some (.int .i64 a)
 c1:w.cell? ⟨g,1,none⟩=some (.slice s.p s.n s.c)
 c2:w.cell? ⟨g,2,none⟩=some (.int .i64 t)
 c3:w.cell? ⟨g,3,none⟩=some (.slice d.p d.n d.c)
 fr : ∀ j,w.frozen? ⟨g,j,none⟩=false
theorem NtIn.lt {w:World} {g:Nat} {a t:Int} {s d:Sv} (h:NtIn w g a t s d):g<w.heap.size:=World.block_lt_of_cell? w _ h.c0
theorem NtIn.grown {w w':World} {g:Nat} {a t:Int} {s d:Sv} {row:Option Nat} (h:NtIn w g a t s d) (hg:w.grownBy w' row) (hne:some g≠row):NtIn w' g a t s d :=
 ⟨hg.cell h.c0 hne,hg.cell h.c1 hne,hg.cell h.c2 hne,hg.cell h.c3 hne,fun j=>(World.frozen?_of_block (a:=⟨g,j,none⟩) (hg.block g h.lt hne)).trans (h.fr j)⟩
theorem NtIn.below {w w':World} {g:Nat} {a t:Int} {s d:Sv} (h:NtIn w g a t s d) (hb:Below w.heap.size w w'):NtIn w' g a t s d:=h.grown (row:=none) (grown_of_below hb none) (by simp)
theorem NtIn.new (w:World) (a t:Int) (T:TypeId):NtIn (w.alloc (.cells #[.int .i64 a,.slice none 0 0,.int .i64 t,.slice none 0 0] T)) w.heap.size a t nilV nilV :=
 ⟨by go_simp,by simp only [nilV];go_simp,by go_simp,by simp only [nilV];go_simp,fun j=>by go_simp⟩
theorem NtIn.blk {w w':World} {T:TypeId} (hb:Below (w.alloc (.cells #[.int .i64 0,.slice none 0 0,.int .i64 0,.slice none 0 0] T)).heap.size (w.alloc (.cells #[.int .i64 0,.slice none 0 0,.int .i64 0,.slice none 0 0] T)) w'):NtIn w' w.heap.size 0 0 nilV nilV:=(NtIn.new w 0 0 T).below hb
theorem NtIn.blkD {w w':World} {T:TypeId} (hb:Below (w.alloc (.cells #[.int .i64 0,.slice none 0 0,.int .i64 0,.slice none 0 0] T)).drew.heap.size (w.alloc (.cells #[.int .i64 0,.slice none 0 0,.int .i64 0,.slice none 0 0] T)).drew w'):NtIn w' w.heap.size 0 0 nilV nilV:=(NtIn.new w 0 0 T).below ((Below.refl _ _).drew.trans hb)
def setNt (w:World) (g:Nat) (a t:Int) (s d:Sv):World:=((((w.setCell ⟨g,0,none⟩ (.int .i64 a)).setCell ⟨g,1,none⟩ (.slice s.p s.n s.c)).setCell ⟨g,2,none⟩ (.int .i64 t)).setCell ⟨g,3,none⟩ (.slice d.p d.n d.c))
theorem setNt_in {w:World} {g:Nat} {a t:Int} {s d:Sv} (h:NtIn w g a t s d) (a' t':Int) (s' d':Sv):NtIn (setNt w g a' t' s' d') g a' t' s' d':=by
 obtain ⟨c0,c1,c2,c3,fr⟩:=h
 unfold setNt
 exact ⟨by go_simp,by go_simp,by go_simp,by go_simp,fun j=>by simp only [World.frozen?_setCell];exact fr j⟩
theorem setNt_below {B:Nat} {W w:World} {g:Nat} (h:Below B W w) (hg:B≤g) (a t:Int) (s d:Sv):Below B W (setNt w g a t s d):=by
 unfold setNt
 repeat' (first | with_reducible exact h | (with_reducible refine Below.setCell ?_ ?_ _) | exact hg)
theorem NtIn.setS {w:World} {g:Nat} {a t:Int} {s d:Sv} (h:NtIn w g a t s d) (p':Option Addr) (n' c':Nat):NtIn (w.setCell ⟨g,1,none⟩ (.slice p' n' c')) g a t ⟨p',n',c'⟩ d:=by
 obtain ⟨c0,c1,c2,c3,fr⟩:=h
 exact ⟨by go_simp,by go_simp,by go_simp,by go_simp,fun j=>by simp only [World.frozen?_setCell];exact fr j⟩
theorem NtIn.setD {w:World} {g:Nat} {a t:Int} {s d:Sv} (h:NtIn w g a t s d) (p':Option Addr) (n' c':Nat):NtIn (w.setCell ⟨g,3,none⟩ (.slice p' n' c')) g a t s ⟨p',n',c'⟩:=by
 obtain ⟨c0,c1,c2,c3,fr⟩:=h
 exact ⟨by go_simp,by go_simp,by go_simp,by go_simp,fun j=>by simp only [World.frozen?_setCell];exact fr j⟩
set_option maxHeartbeats 6400000 in
set_option maxRecDepth 100000 in
theorem notify_read (p:Option Addr) (n c:Nat) (xs:List Int) (w:World) (h:Byt w p n c xs) (hb:n≤140737488355328) :
  Calls Tryz.prog 87 #[.slice p n c] w (ReadPv w (noteE xs n) fun w' x=>x.np=nthB xs 0∧x.nt=nthB xs 2*256+nthB xs 3∧FrV w' w.heap.size x.ns ((xs.drop 4).take (nthB xs 1).toNat)∧FrV w' w.heap.size x.nd (xs.drop (4+(nthB xs 1).toNat))):=by
 have hn:=h.le
 have H1:=hidden (h.alloc (.cells #[.int .i64 0,.slice none 0 0,.int .i64 0,.slice none 0 0,.int .i64 0,.slice none 0 0,.int .i64 0,.slice none 0 0,.int .i64 0,.slice none 0 0,.int .i64 0,.slice none 0 0,.int .i64 0,.slice none 0 0,.slice none 0 0,.slice none 0 0] 49))
 have HB:=hidden ((Below.refl w.heap.size w).alloc (Nat.le_refl _) (.cells #[.int .i64 0,.slice none 0 0,.int .i64 0,.slice none 0 0,.int .i64 0,.slice none 0 0,.int .i64 0,.slice none 0 0,.int .i64 0,.slice none 0 0,.int .i64 0,.slice none 0 0,.int .i64 0,.slice none 0 0,.slice none 0 0,.slice none 0 0] 49))
 have HZ:Hid (PvIn (w.alloc (.cells #[.int .i64 0,.slice none 0 0,.int .i64 0,.slice none 0 0,.int .i64 0,.slice none 0 0,.int .i64 0,.slice none 0 0,.int .i64 0,.slice none 0 0,.int .i64 0,.slice none 0 0,.int .i64 0,.slice none 0 0,.slice none 0 0,.slice none 0 0] 49)) w.heap.size zeroP):=hidden (PvIn.new w zeroP 49)
 have b0:=nthB_rng h.rng 0
 have b1:=nthB_rng h.rng 1
 have b2:=nthB_rng h.rng 2
 have b3:=nthB_rng h.rng 3
 have HXL:=Is.mk h.len
 obtain ⟨E,hE⟩ : ∃ E,noteE xs n=E:=⟨_,rfl⟩
 rw [hE]
 unfold noteE at hE
 by_cases h4:n<4
 ·rw [if_pos h4] at hE
  subst hE
  clear h
  go_enter Tryz.func87,Tryz.ntmps87
  go_wp2_with (first
   | (go_at_call 101;(with_reducible refine (split_any _ _ _ _ _ H1.out hb).mono ?_);rintro e w2 ⟨hb2,⟨-,rfl⟩ | ⟨k4,-⟩⟩;rotate_left;(exact absurd k4 (by omega));have HB2:=hidden ((HB.out.trans (hb2.mono HB.out.size)).alloc (HB.out.trans (hb2.mono HB.out.size)).size (.cells #[.int .u8 0,.int .u8 0,.int .u8 0,.int .u8 0] 164));have HZ2:=hidden ((HZ.out.below hb2).alloc (.cells #[.int .u8 0,.int .u8 0,.int .u8 0,.int .u8 0] 164));obtain ⟨y0,y1,y2,y3,y4,y5,y6,y7,y8,y9,y10,y11,y12,y13,y14,y15,z0,z1,z2,z3,z4,z5,z6,z7,z8,z9,z10,z11,z12,z13,z14,z15,zf⟩:=HZ2.out.any;clear hb2)
   | fail)
  have hz:=stored_pv HZ2.out HB2.out (Nat.le_refl _) zeroP
  simp only [setPv,zeroP,nilV] at hz
  exact ret_pv (g:=w.heap.size) rfl rfl rfl rfl hz.1 ⟨_,rfl,hz.2,fun h=>by cases h⟩
 rw [if_neg h4] at hE
 have HV0:=hidden (show val (([nthB xs 0,nthB xs 1,nthB xs 2,nthB xs 3].drop 0).take 1)=nthB xs 0 by simp [val])
 have HV1:=hidden (show val (([nthB xs 0,nthB xs 1,nthB xs 2,nthB xs 3].drop 1).take 1)=nthB xs 1 by simp [val])
 have HV2:=hidden (show val (([nthB xs 0,nthB xs 1,nthB xs 2,nthB xs 3].drop 2).take 2)=nthB xs 2*256+nthB xs 3 by simp [val])
 have hlen:=h.len
 clear h
 go_enter Tryz.func87,Tryz.ntmps87
 go_upto_region 4 with (first
  | (go_at_call 101;(with_reducible refine (split_any _ _ _ _ _ H1.out hb).mono ?_);rintro e w2 ⟨hb2,⟨k4,-⟩ | ⟨-,q2,d2,rfl,hf⟩⟩;(exact absurd k4 h4);have HB2:=hidden ((HB.out.trans (hb2.mono HB.out.size)).alloc (HB.out.trans (hb2.mono HB.out.size)).size (.cells #[.int .u8 (nthB xs 0),.int .u8 (nthB xs 1),.int .u8 (nthB xs 2),.int .u8 (nthB xs 3)] 164));have HZ2:=hidden ((HZ.out.below hb2).alloc (.cells #[.int .u8 (nthB xs 0),.int .u8 (nthB xs 1),.int .u8 (nthB xs 2),.int .u8 (nthB xs 3)] 164));have HF2:=hidden (hf.alloc (.cells #[.int .u8 (nthB xs 0),.int .u8 (nthB xs 1),.int .u8 (nthB xs 2),.int .u8 (nthB xs 3)] 164));clear hb2 hf)
  | fail)
 have d0:(w2.alloc (.cells #[.int .u8 (nthB xs 0),.int .u8 (nthB xs 1),.int .u8 (nthB xs 2),.int .u8 (nthB xs 3)] 164)).cell? ⟨w2.heap.size,0,none⟩=some (.int .u8 (nthB xs 0)):=by go_simp
 have d1:(w2.alloc (.cells #[.int .u8 (nthB xs 0),.int .u8 (nthB xs 1),.int .u8 (nthB xs 2),.int .u8 (nthB xs 3)] 164)).cell? ⟨w2.heap.size,1,none⟩=some (.int .u8 (nthB xs 1)):=by go_simp
 have d2':(w2.alloc (.cells #[.int .u8 (nthB xs 0),.int .u8 (nthB xs 1),.int .u8 (nthB xs 2),.int .u8 (nthB xs 3)] 164)).cell? ⟨w2.heap.size,2,none⟩=some (.int .u8 (nthB xs 2)):=by go_simp
 have d3:(w2.alloc (.cells #[.int .u8 (nthB xs 0),.int .u8 (nthB xs 1),.int .u8 (nthB xs 2),.int .u8 (nthB xs 3)] 164)).cell? ⟨w2.heap.size,3,none⟩=some (.int .u8 (nthB xs 3)):=by go_simp
 generalize hw3:w2.alloc (.cells #[.int .u8 (nthB xs 0),.int .u8 (nthB xs 1),.int .u8 (nthB xs 2),.int .u8 (nthB xs 3)] 164)=w3 at *
 have hgf:w2.heap.size<w3.heap.size:=by rw [←hw3];simp
 generalize w2.heap.size=gf at *
 have HD:=hidden (fun W (hW:Below w3.heap.size w3 W)=>(⟨cell_below hW _ _ d0,cell_below hW _ _ d1,cell_below hW _ _ d2',cell_below hW _ _ d3⟩:W.cell? ⟨gf,0,none⟩=some (.int .u8 (nthB xs 0))∧W.cell? ⟨gf,1,none⟩=some (.int .u8 (nthB xs 1))∧W.cell? ⟨gf,2,none⟩=some (.int .u8 (nthB xs 2))∧W.cell? ⟨gf,3,none⟩=some (.int .u8 (nthB xs 3))))
 have HFN1:=hidden (fun W=>fnumber_any (nthB xs 0) (nthB xs 1) (nthB xs 2) (nthB xs 3) b0 b1 b2 b3 0 1 0 1 rfl rfl (by omega) (by omega) _ HV0.out W)
 have HFN2:=hidden (fun W=>fnumber_any (nthB xs 0) (nthB xs 1) (nthB xs 2) (nthB xs 3) b0 b1 b2 b3 2 2 2 2 rfl rfl (by omega) (by omega) _ HV2.out W)
 have HFN3:=hidden (fun W=>fnumber_any (nthB xs 0) (nthB xs 1) (nthB xs 2) (nthB xs 3) b0 b1 b2 b3 1 1 1 1 rfl rfl (by omega) (by omega) _ HV1.out W)
 have HR0:=hidden (show Below w3.heap.size w3 w3.drew from (Below.refl _ _).drew)
 have hne3:¬ w3.heap.size=gf:=by omega
 have hnf3:¬ gf=w3.heap.size:=by omega
 clear hw3
 go_cut [7] from 21 to 25 (fun a wx=>∃ g,a=.pointer (some ⟨g,0,none⟩)∧w3.heap.size≤g∧NtIn wx g (nthB xs 0) (nthB xs 2*256+nthB xs 3) nilV nilV∧Below w3.heap.size w3 wx)
 case first =>
  go_region_held3 (fun w'=>w'.cell? ⟨gf,0,none⟩=some (.int .u8 (nthB xs 0))∧w'.cell? ⟨gf,1,none⟩=some (.int .u8 (nthB xs 1))∧w'.cell? ⟨gf,2,none⟩=some (.int .u8 (nthB xs 2))∧w'.cell? ⟨gf,3,none⟩=some (.int .u8 (nthB xs 3))) (first | exact hk4 | exact hk5 | exact HD.out _ HR0.out | go_keep)
   (first
   | (go_at_call 102;(with_reducible refine (HFN1.out _).mono ?_);rintro e w4 ⟨rfl,hb4⟩;have HB4:Hid (Below w3.heap.size w3 w4):=hidden (by first | exact HB5.out.trans (hb4.mono HB5.out.size) | exact (HB5.out.alloc HB5.out.size _).trans (hb4.mono (HB5.out.alloc HB5.out.size _).size) | exact HR0.out.trans (hb4.mono HR0.out.size) | exact (HR0.out.alloc HR0.out.size _).trans (hb4.mono (HR0.out.alloc HR0.out.size _).size));have hk4:=HD.out w4 HB4.out;have hz4:=HB4.out.size;have hne4:¬ w4.heap.size=gf:=(by omega);have hnf4:¬ gf=w4.heap.size:=(by omega);clear hz4;try (first | (have HG0:=NtIn.blkD hb4;have HG:Hid (NtIn w4 w3.heap.size 0 0 nilV nilV):=hidden HG0;clear HG0;have HGL:Hid (w3.heap.size≤w3.heap.size):=hidden (Nat.le_refl _);obtain ⟨u0,u1,u2,u3,uf⟩:=HG.out;simp only [nilV] at u1 u3)))
   | (go_at_call 102;(with_reducible refine (HFN2.out _).mono ?_);rintro e w5 ⟨rfl,hb5⟩;have HB5:Hid (Below w3.heap.size w3 w5):=hidden (by first | exact HB4.out.trans (hb5.mono HB4.out.size) | exact (HB4.out.alloc HB4.out.size _).trans (hb5.mono (HB4.out.alloc HB4.out.size _).size) | exact HR0.out.trans (hb5.mono HR0.out.size) | exact (HR0.out.alloc HR0.out.size _).trans (hb5.mono (HR0.out.alloc HR0.out.size _).size));have hk5:=HD.out w5 HB5.out;have hz5:=HB5.out.size;have hne5:¬ w5.heap.size=gf:=(by omega);have hnf5:¬ gf=w5.heap.size:=(by omega);clear hz5;try (first | (have HG:=hidden (HG.out.below hb5);obtain ⟨u0,u1,u2,u3,uf⟩:=HG.out;simp only [nilV] at u1 u3) | (have HG:Hid (NtIn w5 w4.heap.size 0 0 nilV nilV):=hidden (NtIn.blk hb5);have HGL:Hid (w3.heap.size≤w4.heap.size):=hidden HB4.out.size;obtain ⟨u0,u1,u2,u3,uf⟩:=HG.out;simp only [nilV] at u1 u3)))
   | fail)
  all_goals
   go_wp2_with fail
   go_meet
  all_goals
   first
    | exact ⟨w5.heap.size,rfl,HB5.out.size,NtIn.new w5 _ _ _,HB5.out.alloc HB5.out.size _⟩
    | exact ⟨_,rfl,HGL.out,setNt_in HG.out _ _ nilV nilV,setNt_below HB5.out HGL.out _ _ nilV nilV⟩
 case rest =>
  obtain ⟨g,rfl,hg3,hnt,hbc⟩:=hcut
  have HNC:=hidden hnt
  have HBC:=hidden hbc
  obtain ⟨f0,f1,f2,f3⟩:=HD.out wc hbc
  obtain ⟨E1,hE1⟩ : ∃ E1,notifyE (nthB xs 0) (nthB xs 2*256+nthB xs 3) (nthB xs 1)=E1:=⟨_,rfl⟩
  rw [hE1] at hE
  have HCN:=hidden (fun W=>checkNotify_any (nthB xs 0) (nthB xs 2*256+nthB xs 3) (nthB xs 1) nilV.p nilV.p nilV.n nilV.c nilV.n nilV.c W E1 hE1)
  have hszb:w.heap.size<w3.heap.size:=HZ2.out.lt
  have HL4:=Is.mk (show (xs.drop 4).length=n - 4 by rw [List.length_drop,hlen])
  generalize hP0:nthB xs 0=P0 at *
  generalize hS1:nthB xs 1=S1 at *
  generalize hT:nthB xs 2*256+nthB xs 3=T at *
  have HP0:=Is.mk hP0
  have HS1:=Is.mk hS1
  have HT1:=Is.mk hT
  clear hP0 hS1 hT
  clear hnt hbc hE1 HFN1 HFN2 HR0 HV0 HV1 HV2
  go_upto_region 7 with (first
   | (go_at_call 102;(with_reducible refine (HFN3.out wc).mono ?_);rintro e w4 ⟨rfl,hb4⟩;have HN4:=hidden (HNC.out.below hb4);have HB4:=hidden (HBC.out.trans (hb4.mono HBC.out.size));obtain ⟨c0,c1,c2,c3,cf⟩:=HN4.out;clear hb4)
   | (go_at_call 108;(with_reducible refine (HCN.out w4).mono ?_);rintro e w5 ⟨rfl,hb5⟩;have HN5:=hidden (HN4.out.below hb5);have HB5:=hidden (HB4.out.trans (hb5.mono HB4.out.size));clear hb5 c0 c1 c2 c3 cf)
   | fail)
  have HZ5:=hidden (HZ2.out.below (HB5.out))
  have HBW5:=hidden (HB2.out.trans (HB5.out.mono HB2.out.size))
  by_cases hE0:E1≠0
  ·rw [if_pos hE0] at hE
   subst hE
   have hEn:(E1 != 0)=true:=by simp [hE0]
   obtain ⟨z0,z1,z2,z3,z4,z5,z6,z7,z8,z9,z10,z11,z12,z13,z14,z15,zf⟩:=HZ5.out
   have hz:=stored_pv HZ5.out HBW5.out (Nat.le_refl _) zeroP
   simp only [setPv,zeroP,nilV] at hz
   have HZZ:=hidden hz
   clear hz
   go_wp2
   exact ret_pv (g:=w.heap.size) rfl rfl rfl rfl HZZ.out.1 ⟨_,rfl,HZZ.out.2,fun h=>absurd h hE0⟩
  ·rw [if_neg hE0] at hE
   have hEe:E1=0:=by omega
   have hEn:(E1 != 0)=false:=by simp [hEe]
   have HQ5:=hidden (HF2.out.byt.below HB5.out)
   have HSL:=hidden (slice_bod q2 (n - 4) d2 (xs.drop 4) w5 HQ5.out (by omega) 0 S1 (by omega) (by omega))
   clear hE0 hEe
   go_upto_region 10 with fail
   go_upto_region 11 with (first
    | (go_at_call 80;(with_reducible refine (HSL.out).mono ?_);rintro e w6 ⟨ps,ns,cs,rfl,hbod,hb6⟩;have HS6:=hidden hbod;have HN6:=hidden (HN5.out.below hb6);have HB6:=hidden (HB5.out.trans (hb6.mono HB5.out.size));have HW6:=hidden hb6;obtain ⟨c0,c1,c2,c3,cf⟩:=HN6.out;clear hb6 hbod)
    | fail)
   have HN7:=hidden (HN6.out.setS ps ns cs)
   have HB7:=hidden (HB6.out.setCell (p:=⟨g,1,none⟩) hg3 (.slice ps ns cs))
   have hg5:g<w5.heap.size:=HN5.out.lt
   have HFS7:=hidden (HS6.out.frs.low (grown_set w6 g 1 (.slice ps ns cs)) hg5)
   have hs7:w5.heap.size≤(w6.setCell ⟨g,1,none⟩ (.slice ps ns cs)).heap.size:=by have:=HW6.out.size;simp;omega
   clear c0 c1 c2 c3 cf HW6 HS6 HN6 HB6
   generalize w6.setCell ⟨g,1,none⟩ (.slice ps ns cs)=w7 at *
   have HZ7:=hidden (HZ2.out.below HB7.out)
   have HBW7:=hidden (HB2.out.trans (HB7.out.mono HB2.out.size))
   have hnc:(n:Int) - 4=((n - 4:Nat):Int):=by omega
   by_cases hsz:(n:Int) - 4<S1
   ·have hR:pieceR (xs.drop 4) 0 S1=([],false):=by unfold pieceR;rw [if_neg (by rw [HL4.eq];omega)]
    rw [if_pos hsz] at hE
    subst hE
    rw [hR]
    obtain ⟨z0,z1,z2,z3,z4,z5,z6,z7,z8,z9,z10,z11,z12,z13,z14,z15,zf⟩:=HZ7.out
    have hz:=stored_pv HZ7.out HBW7.out (Nat.le_refl _) zeroP
    simp only [setPv,zeroP,nilV] at hz
    have HZZ:=hidden hz
    clear hz HFS7
    go_wp2
    exact ret_pv (g:=w.heap.size) rfl rfl rfl rfl HZZ.out.1 ⟨_,rfl,HZZ.out.2,fun h=>by cases h⟩
   ·have hR:pieceR (xs.drop 4) 0 S1=((xs.drop 4).take S1.toNat,true):=by unfold pieceR;rw [if_pos (by rw [HL4.eq];omega)];rfl
    rw [if_neg hsz] at hE
    subst hE
    rw [hR] at HFS7 ⊢
    have HQ7:=hidden (HF2.out.byt.below HB7.out)
    have HSL2:=hidden (fun (k:Int) (hk:k=(n:Int) - 4 - S1)=>slice_bod q2 (n - 4) d2 (xs.drop 4) w7 HQ7.out (by omega) S1 k (by omega) (by omega))
    have HR2:=hidden (fun (k:Int) (hk:k=(n:Int) - 4 - S1)=>(show (pieceR (xs.drop 4) S1 k).1=xs.drop (4+S1.toNat) by
     unfold pieceR
     rw [if_pos (by rw [HL4.eq];omega),List.drop_drop,List.take_of_length_le (by rw [List.length_drop,hlen];omega)]))
    have hkk:((n - 4:Nat):Int) - S1=(n:Int) - 4 - S1:=by omega
    clear hR hsz
    go_upto_region 14 with (first
     | (go_at_call 80;(with_reducible refine (HSL2.out _ ?_).mono ?_);(first | rfl | omega);rintro e w8 ⟨pd,nd,cd,rfl,hbod,hb8⟩;have HS8:=hidden hbod;have HN8:=hidden (HN7.out.below hb8);have HB8:=hidden (HB7.out.trans (hb8.mono HB7.out.size));have HW8:=hidden hb8;obtain ⟨c0,c1,c2,c3,cf⟩:=HN8.out;clear hb8 hbod)
     | fail)
    have hs8:=HS8.out
    rw [HR2.out _ (by first | rfl | omega)] at hs8
    have HN9:=hidden (HN8.out.setD pd nd cd)
    have HB9:=hidden (HB8.out.setCell (p:=⟨g,3,none⟩) hg3 (.slice pd nd cd))
    have hg8:g<w7.heap.size:=HN7.out.lt
    have HFD9:=hidden (hs8.frs.low (grown_set w8 g 3 (.slice pd nd cd)) hg8)
    have HFS9:=hidden ((HFS7.out.below HW8.out).low (grown_set w8 g 3 (.slice pd nd cd)) hg5)
    clear c0 c1 c2 c3 cf HW8 HS8 HN8 HB8 hs8 HR2 HFS7
    generalize w8.setCell ⟨g,3,none⟩ (.slice pd nd cd)=w9 at *
    have HZ9:=hidden (HZ2.out.below HB9.out)
    have HBW9:=hidden (HB2.out.trans (HB9.out.mono HB2.out.size))
    obtain ⟨z0,z1,z2,z3,z4,z5,z6,z7,z8,z9,z10,z11,z12,z13,z14,z15,zf⟩:=HZ9.out
    obtain ⟨c0,c1,c2,c3,cf⟩:=HN9.out
    have hz:=stored_pv HZ9.out HBW9.out (Nat.le_refl _) ⟨0,nilV,0,nilV,0,nilV,0,nilV,P0,⟨ps,ns,cs⟩,T,⟨pd,nd,cd⟩,0,nilV,nilV,nilV⟩
    have hfs:=(HFS9.out.low (setPv_grown w9 w.heap.size ⟨0,nilV,0,nilV,0,nilV,0,nilV,P0,⟨ps,ns,cs⟩,T,⟨pd,nd,cd⟩,0,nilV,nilV,nilV⟩) (by omega)).mono (show w.heap.size≤w5.heap.size by omega)
    have hfd:=(HFD9.out.low (setPv_grown w9 w.heap.size ⟨0,nilV,0,nilV,0,nilV,0,nilV,P0,⟨ps,ns,cs⟩,T,⟨pd,nd,cd⟩,0,nilV,nilV,nilV⟩) (by omega)).mono (show w.heap.size≤w7.heap.size by omega)
    simp only [setPv,nilV] at hz hfs hfd
    have HZZ:=hidden hz
    have HFS:=hidden hfs
    have HFD:=hidden hfd
    clear hz hfs hfd
    simp only [nilV] at c1 c3
    go_wp2
    exact ret_pv (g:=w.heap.size) rfl rfl rfl rfl HZZ.out.1 ⟨_,rfl,HZZ.out.2,fun _=>⟨HP0.eq.symm,HT1.eq.symm,by rw [HS1.eq];exact HFS.out,by rw [HS1.eq];exact HFD.out⟩⟩
end Go.Proofs.YtgpigjoonhghhaaGreat
