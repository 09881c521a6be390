/-
 Package payload's reader of authentications.
 Package payload's reader of key exchanges.
-/
import Derived.Test.YtgpigjoonhghhaaGreatQZ5
namespace Go.Proofs.YtgpigjoonhghhaaGreat
open Go.RowKit
set_option linter.unusedVariables false
def authE (m:Int) (n:Nat):Int:=if m≠2∧m≠14 then 5 else if n=0 then 2 else 0
def authenE (xs:List Int) (n:Nat):Int:=if n<4 then 1 else authE (nthB xs 0) (n - 4)
set_option maxHeartbeats 800000 in
theorem checkAuth_any (m:Int) (p:Option Addr) (n c:Nat) (w:World) (hn:n≤9223372036854775807) (E:Int) (hE:authE m n=E) :
  Calls Tryz.prog 105 #[.agg #[.int .i64 m,.slice p n c]] w fun e w'=>e=.returned (.int .i64 E)∧Below w.heap.size w w':=by
 have HB:=hidden ((Below.refl w.heap.size w).alloc (Nat.le_refl _) (.cells #[.int .i64 m,.slice p n c] 41))
 unfold authE at hE
 by_cases h1:m≠2∧m≠14
 ·rw [if_pos h1] at hE
  subst hE
  have e1:(m != 2)=true:=by simpa using h1.1
  have e2:(m != 14)=true:=by simpa using h1.2
  clear h1
  go_enter Tryz.func105,Tryz.ntmps105
  go_wp2
  go_ret
  exact ⟨rfl,HB.out⟩
 rw [if_neg h1] at hE
 have hm:m=2∨m=14:=by omega
 clear h1
 by_cases h3:n=0
 ·rw [if_pos h3] at hE
  subst hE h3
  rcases hm with rfl | rfl
  all_goals
   go_enter Tryz.func105,Tryz.ntmps105
   go_wp2
   go_ret
   exact ⟨rfl,HB.out⟩
 ·rw [if_neg h3] at hE
  subst hE
  have hz:((n:Int) == 0)=false:=by simp;omega
  clear h3
  rcases hm with rfl | rfl
  all_goals
   go_enter Tryz.func105,Tryz.ntmps105
   go_wp2
   go_ret
   exact ⟨rfl,HB.out⟩
set_option maxHeartbeats 1600000 in
set_option maxRecDepth 100000 in
theorem auth_read (p:Option Addr) (n c:Nat) (xs:List Int) (w:World) (h:Byt w p n c xs) (hb:n≤140737488355328) :
  Calls Tryz.prog 85 #[.slice p n c] w (ReadPv w (authenE xs n) fun w' x=>x.am=(nthB xs 0)∧FrV w' w.heap.size x.ad (xs.drop 4)):=by
 have hn:=h.le
 have H1:=hidden (h.alloc (.cells #[.int .i64 0,.slice none 0 0,.int .i64 0,.slice none 0 0,.int .i64 0,.slice none 0 0,.int .i64 0,.slice none 0 0,.int .i64 0,.slice none 0 0,.int .i64 0,.slice none 0 0,.int .i64 0,.slice none 0 0,.slice none 0 0,.slice none 0 0] 49))
 have HB:=hidden ((Below.refl w.heap.size w).alloc (Nat.le_refl _) (.cells #[.int .i64 0,.slice none 0 0,.int .i64 0,.slice none 0 0,.int .i64 0,.slice none 0 0,.int .i64 0,.slice none 0 0,.int .i64 0,.slice none 0 0,.int .i64 0,.slice none 0 0,.int .i64 0,.slice none 0 0,.slice none 0 0,.slice none 0 0] 49))
 have HZ:Hid (PvIn (w.alloc (.cells #[.int .i64 0,.slice none 0 0,.int .i64 0,.slice none 0 0,.int .i64 0,.slice none 0 0,.int .i64 0,.slice none 0 0,.int .i64 0,.slice none 0 0,.int .i64 0,.slice none 0 0,.int .i64 0,.slice none 0 0,.slice none 0 0,.slice none 0 0] 49)) w.heap.size zeroP):=hidden (PvIn.new w zeroP 49)
 have b0:=nthB_rng h.rng 0
 have b1:=nthB_rng h.rng 1
 have b2:=nthB_rng h.rng 2
 have b3:=nthB_rng h.rng 3
 obtain ⟨E,hE⟩ : ∃ E,authenE xs n=E:=⟨_,rfl⟩
 rw [hE]
 unfold authenE at hE
 by_cases h4:n<4
 ·rw [if_pos h4] at hE
  subst hE
  clear h
  go_enter Tryz.func85,Tryz.ntmps85
  go_wp2_with (first
   | (go_at_call 101;(with_reducible refine (split_any _ _ _ _ _ H1.out hb).mono ?_);rintro e w2 ⟨hb2,⟨-,rfl⟩ | ⟨k4,-⟩⟩;rotate_left;(exact absurd k4 (by omega));have HB2:=hidden ((HB.out.trans (hb2.mono HB.out.size)).alloc (HB.out.trans (hb2.mono HB.out.size)).size (.cells #[.int .u8 0,.int .u8 0,.int .u8 0,.int .u8 0] 164));have HZ2:=hidden ((HZ.out.below hb2).alloc (.cells #[.int .u8 0,.int .u8 0,.int .u8 0,.int .u8 0] 164));obtain ⟨z0,z1,z2,z3,z4,z5,z6,z7,z8,z9,z10,z11,z12,z13,z14,z15,zf⟩:=HZ2.out;clear hb2)
   | fail)
  have hz:=stored_pv HZ2.out HB2.out (Nat.le_refl _) zeroP
  simp only [setPv,zeroP,nilV] at hz
  exact ret_pv (g:=w.heap.size) rfl rfl rfl rfl hz.1 ⟨_,rfl,hz.2,fun h=>by cases h⟩
 ·rw [if_neg h4] at hE
  have HCI:=hidden (fun q d=>checkAuth_any (nthB xs 0) q (n - 4) d · (by omega) E hE)
  have HV:=hidden (show val (([nthB xs 0,nthB xs 1,nthB xs 2,nthB xs 3].drop 0).take 1)=(nthB xs 0) by simp [val])
  clear h hE
  go_enter Tryz.func85,Tryz.ntmps85
  go_upto_region 5 with (first
   | (go_at_call 101;(with_reducible refine (split_any _ _ _ _ _ H1.out hb).mono ?_);rintro e w2 ⟨hb2,⟨k4,-⟩ | ⟨-,q2,d2,rfl,hf⟩⟩;(exact absurd k4 h4);have HB2:=hidden ((HB.out.trans (hb2.mono HB.out.size)).alloc (HB.out.trans (hb2.mono HB.out.size)).size (.cells #[.int .u8 (nthB xs 0),.int .u8 (nthB xs 1),.int .u8 (nthB xs 2),.int .u8 (nthB xs 3)] 164));have HZ2:=hidden ((HZ.out.below hb2).alloc (.cells #[.int .u8 (nthB xs 0),.int .u8 (nthB xs 1),.int .u8 (nthB xs 2),.int .u8 (nthB xs 3)] 164));have HF2:=hidden (hf.alloc (.cells #[.int .u8 (nthB xs 0),.int .u8 (nthB xs 1),.int .u8 (nthB xs 2),.int .u8 (nthB xs 3)] 164));clear hb2 hf)
   | (go_at_call 102;(with_reducible refine (fnumber_any _ _ _ _ b0 b1 b2 b3 0 1 0 1 rfl rfl (by omega) (by omega) _ HV.out _).mono ?_);rintro e w3 ⟨rfl,hb3⟩;have HB3:=hidden (HB2.out.trans (hb3.mono HB2.out.size));have HZ3:=hidden (HZ2.out.below hb3);have HF3:=hidden (HF2.out.below hb3);clear hb3 HB2 HZ2 HF2)
   | fail)
  have HB4:=hidden (HB3.out.alloc HB3.out.size (.cells #[.int .i64 ((nthB xs 0)),.slice q2 (n - 4) d2] 41))
  have HZ4:=hidden (HZ3.out.alloc (.cells #[.int .i64 ((nthB xs 0)),.slice q2 (n - 4) d2] 41))
  have HF4:=hidden (HF3.out.alloc (.cells #[.int .i64 ((nthB xs 0)),.slice q2 (n - 4) d2] 41))
  have d0:(w3.alloc (.cells #[.int .i64 ((nthB xs 0)),.slice q2 (n - 4) d2] 41)).cell? ⟨w3.heap.size,0,none⟩=some (.int .i64 ((nthB xs 0))):=by go_simp
  have d1:(w3.alloc (.cells #[.int .i64 ((nthB xs 0)),.slice q2 (n - 4) d2] 41)).cell? ⟨w3.heap.size,1,none⟩=some (.slice q2 (n - 4) d2):=by go_simp
  generalize hw4:w3.alloc (.cells #[.int .i64 ((nthB xs 0)),.slice q2 (n - 4) d2] 41)=w4 at *
  have hgl:=HZ3.out.lt
  generalize w3.heap.size=g3 at *
  have hn1:¬ g3=w.heap.size:=by omega
  have hn2:¬ w.heap.size=g3:=by omega
  have hgk:w.heap.size<(w.alloc (.cells #[.int .i64 0,.slice none 0 0,.int .i64 0,.slice none 0 0,.int .i64 0,.slice none 0 0,.int .i64 0,.slice none 0 0,.int .i64 0,.slice none 0 0,.int .i64 0,.slice none 0 0,.int .i64 0,.slice none 0 0,.slice none 0 0,.slice none 0 0] 49)).heap.size:=by simp
  have HKG:=hidden hgk
  clear hw4 HB3 HZ3 HF3 hgk hgl
  go_upto_region 5 with fail
  have HK:=hidden (fun wx (hb:Below w4.heap.size w4 wx)=>And.intro (cell_below hb _ _ d0) (cell_below hb _ _ d1))
  have HBD:=hidden (show Below w4.heap.size w4 w4.drew from drew_below ⟨1,rfl⟩)
  have HZD:=hidden (HZ4.out.below (w':=w4.drew) HBD.out)
  obtain ⟨y0,y1,y2,y3,y4,y5,y6,y7,y8,y9,y10,y11,y12,y13,y14,y15,z0,z1,z2,z3,z4,z5,z6,z7,z8,z9,z10,z11,z12,z13,z14,z15,zf⟩:=HZD.out.any
  go_region_with
   (first
   | (go_at_call 105;(with_reducible refine (HCI.out _ q2 d2).mono ?_);rintro e w5 ⟨rfl,hbc⟩;have hB:=HBD.out.trans hbc;have HB5:=hidden (HB4.out.trans (hB.mono HB4.out.size));have HZ5:=hidden (HZ4.out.below hB);have HF5:=hidden (HF4.out.below hB);obtain ⟨d0',d1'⟩:=HK.out _ hB;clear z0 z1 z2 z3 z4 z5 z6 z7 z8 z9 z10 z11 z12 z13 z14 z15 zf y0 y1 y2 y3 y4 y5 y6 y7 y8 y9 y10 y11 y12 y13 y14 y15;obtain ⟨y0,y1,y2,y3,y4,y5,y6,y7,y8,y9,y10,y11,y12,y13,y14,y15,z0,z1,z2,z3,z4,z5,z6,z7,z8,z9,z10,z11,z12,z13,z14,z15,zf⟩:=HZ5.out.any;clear hB)
   | fail)
  all_goals
   have hz:=stored_pv HZ5.out HB5.out (Nat.le_refl _) ⟨0,nilV,0,nilV,0,nilV,nthB xs 0,⟨q2,n - 4,d2⟩,0,nilV,0,nilV,0,nilV,nilV,nilV⟩
   have hfl:=(HF5.out.low (setPv_grown w5 w.heap.size ⟨0,nilV,0,nilV,0,nilV,nthB xs 0,⟨q2,n - 4,d2⟩,0,nilV,0,nilV,0,nilV,nilV,nilV⟩) HKG.out).mono (Nat.le_of_lt HKG.out)
   simp only [setPv,nilV] at hz hfl
   have HZZ:=hidden hz
   have HFF:=hidden hfl
   clear hz hfl hbc
   go_wp2
   exact ret_pv (g:=w.heap.size) rfl rfl rfl rfl HZZ.out.1 ⟨_,rfl,HZZ.out.2,fun _=>⟨rfl,HFF.out⟩⟩
end Go.Proofs.YtgpigjoonhghhaaGreat

namespace Go.Proofs.YtgpigjoonhghhaaGreat
open Go.RowKit
set_option linter.unusedVariables false
def exchE (g:Int) (n:Nat):Int:=if g<0∨65535<g then 5 else if n=0 then 13 else 0
def exchangeE (xs:List Int) (n:Nat):Int:=if n<4 then 1 else exchE (nthB xs 0*256+nthB xs 1) (n - 4)
set_option maxHeartbeats 800000 in
theorem checkExchange_any (g:Int) (p:Option Addr) (n c:Nat) (w:World) (hn:n≤9223372036854775807) (E:Int) (hE:exchE g n=E) :
  Calls Tryz.prog 103 #[.agg #[.int .i64 g,.slice p n c]] w fun e w'=>e=.returned (.int .i64 E)∧Below w.heap.size w w':=by
 have HB:=hidden ((Below.refl w.heap.size w).alloc (Nat.le_refl _) (.cells #[.int .i64 g,.slice p n c] 37))
 unfold exchE at hE
 by_cases h1:g<0
 ·rw [if_pos (Or.inl h1)] at hE
  subst hE
  go_enter Tryz.func103,Tryz.ntmps103
  go_wp2
  go_ret
  exact ⟨rfl,HB.out⟩
 by_cases h2:65535<g
 ·rw [if_pos (Or.inr h2)] at hE
  subst hE
  go_enter Tryz.func103,Tryz.ntmps103
  go_wp2
  go_ret
  exact ⟨rfl,HB.out⟩
 rw [if_neg (by omega)] at hE
 by_cases h3:n=0
 ·rw [if_pos h3] at hE
  subst hE h3
  go_enter Tryz.func103,Tryz.ntmps103
  go_wp2
  go_ret
  exact ⟨rfl,HB.out⟩
 ·rw [if_neg h3] at hE
  subst hE
  have hz:((n:Int) == 0)=false:=by simp;omega
  clear h3
  go_enter Tryz.func103,Tryz.ntmps103
  go_wp2
  go_ret
  exact ⟨rfl,HB.out⟩
set_option maxHeartbeats 1600000 in
set_option maxRecDepth 100000 in
theorem exchange_read (p:Option Addr) (n c:Nat) (xs:List Int) (w:World) (h:Byt w p n c xs) (hb:n≤140737488355328) :
  Calls Tryz.prog 83 #[.slice p n c] w (ReadPv w (exchangeE xs n) fun w' x=>x.eg=(nthB xs 0*256+nthB xs 1)∧FrV w' w.heap.size x.ed (xs.drop 4)):=by
 have hn:=h.le
 have H1:=hidden (h.alloc (.cells #[.int .i64 0,.slice none 0 0,.int .i64 0,.slice none 0 0,.int .i64 0,.slice none 0 0,.int .i64 0,.slice none 0 0,.int .i64 0,.slice none 0 0,.int .i64 0,.slice none 0 0,.int .i64 0,.slice none 0 0,.slice none 0 0,.slice none 0 0] 49))
 have HB:=hidden ((Below.refl w.heap.size w).alloc (Nat.le_refl _) (.cells #[.int .i64 0,.slice none 0 0,.int .i64 0,.slice none 0 0,.int .i64 0,.slice none 0 0,.int .i64 0,.slice none 0 0,.int .i64 0,.slice none 0 0,.int .i64 0,.slice none 0 0,.int .i64 0,.slice none 0 0,.slice none 0 0,.slice none 0 0] 49))
 have HZ:Hid (PvIn (w.alloc (.cells #[.int .i64 0,.slice none 0 0,.int .i64 0,.slice none 0 0,.int .i64 0,.slice none 0 0,.int .i64 0,.slice none 0 0,.int .i64 0,.slice none 0 0,.int .i64 0,.slice none 0 0,.int .i64 0,.slice none 0 0,.slice none 0 0,.slice none 0 0] 49)) w.heap.size zeroP):=hidden (PvIn.new w zeroP 49)
 have b0:=nthB_rng h.rng 0
 have b1:=nthB_rng h.rng 1
 have b2:=nthB_rng h.rng 2
 have b3:=nthB_rng h.rng 3
 obtain ⟨E,hE⟩ : ∃ E,exchangeE xs n=E:=⟨_,rfl⟩
 rw [hE]
 unfold exchangeE at hE
 by_cases h4:n<4
 ·rw [if_pos h4] at hE
  subst hE
  clear h
  go_enter Tryz.func83,Tryz.ntmps83
  go_wp2_with (first
   | (go_at_call 101;(with_reducible refine (split_any _ _ _ _ _ H1.out hb).mono ?_);rintro e w2 ⟨hb2,⟨-,rfl⟩ | ⟨k4,-⟩⟩;rotate_left;(exact absurd k4 (by omega));have HB2:=hidden ((HB.out.trans (hb2.mono HB.out.size)).alloc (HB.out.trans (hb2.mono HB.out.size)).size (.cells #[.int .u8 0,.int .u8 0,.int .u8 0,.int .u8 0] 164));have HZ2:=hidden ((HZ.out.below hb2).alloc (.cells #[.int .u8 0,.int .u8 0,.int .u8 0,.int .u8 0] 164));obtain ⟨z0,z1,z2,z3,z4,z5,z6,z7,z8,z9,z10,z11,z12,z13,z14,z15,zf⟩:=HZ2.out;clear hb2)
   | fail)
  have hz:=stored_pv HZ2.out HB2.out (Nat.le_refl _) zeroP
  simp only [setPv,zeroP,nilV] at hz
  exact ret_pv (g:=w.heap.size) rfl rfl rfl rfl hz.1 ⟨_,rfl,hz.2,fun h=>by cases h⟩
 ·rw [if_neg h4] at hE
  have HCI:=hidden (fun q d=>checkExchange_any (nthB xs 0*256+nthB xs 1) q (n - 4) d · (by omega) E hE)
  have HV:=hidden (show val (([nthB xs 0,nthB xs 1,nthB xs 2,nthB xs 3].drop 0).take 2)=(nthB xs 0*256+nthB xs 1) by simp [val])
  clear h hE
  go_enter Tryz.func83,Tryz.ntmps83
  go_upto_region 5 with (first
   | (go_at_call 101;(with_reducible refine (split_any _ _ _ _ _ H1.out hb).mono ?_);rintro e w2 ⟨hb2,⟨k4,-⟩ | ⟨-,q2,d2,rfl,hf⟩⟩;(exact absurd k4 h4);have HB2:=hidden ((HB.out.trans (hb2.mono HB.out.size)).alloc (HB.out.trans (hb2.mono HB.out.size)).size (.cells #[.int .u8 (nthB xs 0),.int .u8 (nthB xs 1),.int .u8 (nthB xs 2),.int .u8 (nthB xs 3)] 164));have HZ2:=hidden ((HZ.out.below hb2).alloc (.cells #[.int .u8 (nthB xs 0),.int .u8 (nthB xs 1),.int .u8 (nthB xs 2),.int .u8 (nthB xs 3)] 164));have HF2:=hidden (hf.alloc (.cells #[.int .u8 (nthB xs 0),.int .u8 (nthB xs 1),.int .u8 (nthB xs 2),.int .u8 (nthB xs 3)] 164));clear hb2 hf)
   | (go_at_call 102;(with_reducible refine (fnumber_any _ _ _ _ b0 b1 b2 b3 0 2 0 2 rfl rfl (by omega) (by omega) _ HV.out _).mono ?_);rintro e w3 ⟨rfl,hb3⟩;have HB3:=hidden (HB2.out.trans (hb3.mono HB2.out.size));have HZ3:=hidden (HZ2.out.below hb3);have HF3:=hidden (HF2.out.below hb3);clear hb3 HB2 HZ2 HF2)
   | fail)
  have HB4:=hidden (HB3.out.alloc HB3.out.size (.cells #[.int .i64 ((nthB xs 0*256+nthB xs 1)),.slice q2 (n - 4) d2] 37))
  have HZ4:=hidden (HZ3.out.alloc (.cells #[.int .i64 ((nthB xs 0*256+nthB xs 1)),.slice q2 (n - 4) d2] 37))
  have HF4:=hidden (HF3.out.alloc (.cells #[.int .i64 ((nthB xs 0*256+nthB xs 1)),.slice q2 (n - 4) d2] 37))
  have d0:(w3.alloc (.cells #[.int .i64 ((nthB xs 0*256+nthB xs 1)),.slice q2 (n - 4) d2] 37)).cell? ⟨w3.heap.size,0,none⟩=some (.int .i64 ((nthB xs 0*256+nthB xs 1))):=by go_simp
  have d1:(w3.alloc (.cells #[.int .i64 ((nthB xs 0*256+nthB xs 1)),.slice q2 (n - 4) d2] 37)).cell? ⟨w3.heap.size,1,none⟩=some (.slice q2 (n - 4) d2):=by go_simp
  generalize hw4:w3.alloc (.cells #[.int .i64 ((nthB xs 0*256+nthB xs 1)),.slice q2 (n - 4) d2] 37)=w4 at *
  have hgl:=HZ3.out.lt
  generalize w3.heap.size=g3 at *
  have hn1:¬ g3=w.heap.size:=by omega
  have hn2:¬ w.heap.size=g3:=by omega
  have hgk:w.heap.size<(w.alloc (.cells #[.int .i64 0,.slice none 0 0,.int .i64 0,.slice none 0 0,.int .i64 0,.slice none 0 0,.int .i64 0,.slice none 0 0,.int .i64 0,.slice none 0 0,.int .i64 0,.slice none 0 0,.int .i64 0,.slice none 0 0,.slice none 0 0,.slice none 0 0] 49)).heap.size:=by simp
  have HKG:=hidden hgk
  clear hw4 HB3 HZ3 HF3 hgk hgl
  go_upto_region 5 with fail
  have HK:=hidden (fun wx (hb:Below w4.heap.size w4 wx)=>And.intro (cell_below hb _ _ d0) (cell_below hb _ _ d1))
  have HBD:=hidden (show Below w4.heap.size w4 w4.drew from drew_below ⟨1,rfl⟩)
  have HZD:=hidden (HZ4.out.below (w':=w4.drew) HBD.out)
  obtain ⟨y0,y1,y2,y3,y4,y5,y6,y7,y8,y9,y10,y11,y12,y13,y14,y15,z0,z1,z2,z3,z4,z5,z6,z7,z8,z9,z10,z11,z12,z13,z14,z15,zf⟩:=HZD.out.any
  go_region_with
   (first
   | (go_at_call 103;(with_reducible refine (HCI.out _ q2 d2).mono ?_);rintro e w5 ⟨rfl,hbc⟩;have hB:=HBD.out.trans hbc;have HB5:=hidden (HB4.out.trans (hB.mono HB4.out.size));have HZ5:=hidden (HZ4.out.below hB);have HF5:=hidden (HF4.out.below hB);obtain ⟨d0',d1'⟩:=HK.out _ hB;clear z0 z1 z2 z3 z4 z5 z6 z7 z8 z9 z10 z11 z12 z13 z14 z15 zf y0 y1 y2 y3 y4 y5 y6 y7 y8 y9 y10 y11 y12 y13 y14 y15;obtain ⟨y0,y1,y2,y3,y4,y5,y6,y7,y8,y9,y10,y11,y12,y13,y14,y15,z0,z1,z2,z3,z4,z5,z6,z7,z8,z9,z10,z11,z12,z13,z14,z15,zf⟩:=HZ5.out.any;clear hB)
   | fail)
  all_goals
   have hz:=stored_pv HZ5.out HB5.out (Nat.le_refl _) ⟨0,nilV,nthB xs 0*256+nthB xs 1,⟨q2,n - 4,d2⟩,0,nilV,0,nilV,0,nilV,0,nilV,0,nilV,nilV,nilV⟩
   have hfl:=(HF5.out.low (setPv_grown w5 w.heap.size ⟨0,nilV,nthB xs 0*256+nthB xs 1,⟨q2,n - 4,d2⟩,0,nilV,0,nilV,0,nilV,0,nilV,0,nilV,nilV,nilV⟩) HKG.out).mono (Nat.le_of_lt HKG.out)
   simp only [setPv,nilV] at hz hfl
   have HZZ:=hidden hz
   have HFF:=hidden hfl
   clear hz hfl hbc
   go_wp2
   exact ret_pv (g:=w.heap.size) rfl rfl rfl rfl HZZ.out.1 ⟨_,rfl,HZZ.out.2,fun _=>⟨rfl,HFF.out⟩⟩
end Go.Proofs.YtgpigjoonhghhaaGreat
