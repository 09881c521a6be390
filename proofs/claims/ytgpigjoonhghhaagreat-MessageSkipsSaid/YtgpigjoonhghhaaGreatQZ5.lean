/-
 Package payload's reader of identities.
 Package payload's reader of plain data.
 A statement that draws its order: a condition on the world that holds till one operation, a call, has come up, beside one that holds throughout. What that call waits for may be loaded by the first condition, although stores behind the call end it.
 The header of a message as six numbers, and what Check and Request answer of it.
 A header that lies in a block of the call's own.
 Returning a header that lies in a block of the call's own.
 A list of choices: a number of 64 bits.
 The header that a list of choices makes: it passes Check.
 The cursor that header.Parse reads with: a field behind the other, and an error that stays.
 What header.Parse returns: the header in any bytes, or the first error.
 Reply: the notification of every error, on both sides.
 What header.Build returns: the 28 bytes of a header, or the first error.
 Plain mathematics, no program: what is read of the bytes of a header.
 Slices of ints, and rows of slices of bytes of the call's own.
 append onto a row of the call's own: where the result lies.
 What the document's own Slice returns, for every slice of bytes, place and length.
 What the document's own Parse of chains returns: the payloads in any bytes, or the first error.
 A range over a function whose function keeps a state of its own in one block, whatever the program: the statement's law, where the body always goes on.
-/
import Derived.Test.YtgpigjoonhghhaaGreatQZ4
import Derived.Test.YtgpigjoonhghhaaGreatRows
import Derived.Test.YtgpigjoonhghhaaGreatQZ0
import Derived.Test.YtgpigjoonhghhaaGreatQNum
import Derived.Test.YtgpigjoonhghhaaGreatQZ2
import Derived.Test.YtgpigjoonhghhaaGreatQZ1
import Derived.OrdersHeld
import Derived.Deep.RegionHeld
import Derived.Deep.QuietTactic
import Derived.BigQuiet
import Derived.ArgAppend
import Derived.RangeFuncNested
import Derived.RangeFuncBound
import Derived.RangeFuncCalls
import Derived.RangeFuncLeaves
import Derived.Shelf.Abstract
import Derived.WalkKit
namespace Go.Proofs.YtgpigjoonhghhaaGreat
open Go.RowKit
set_option linter.unusedVariables false
theorem nthB_rng {xs:List Int} (h : ∀ x∈xs,0≤x∧x≤255) (j:Nat):0≤nthB xs j∧nthB xs j≤255:=rng_getD h j
def identE (xs:List Int) (n:Nat):Int:=if n<4 then 1 else idE (nthB xs 0) (n - 4)
set_option maxHeartbeats 1600000 in
set_option maxRecDepth 100000 in
theorem identity_read (p:Option Addr) (n c:Nat) (xs:List Int) (w:World) (h:Byt w p n c xs) (hb:n≤140737488355328) :
  Calls Tryz.prog 84 #[.slice p n c] w (ReadPv w (identE xs n) fun w' x=>x.ik=nthB xs 0∧FrV w' w.heap.size x.id (xs.drop 4)):=by
 have hn:=h.le
 have H1:=hidden (h.alloc (.cells #[.int .i64 0,.slice none 0 0,.int .i64 0,.slice none 0 0,.int .i64 0,.slice none 0 0,.int .i64 0,.slice none 0 0,.int .i64 0,.slice none 0 0,.int .i64 0,.slice none 0 0,.int .i64 0,.slice none 0 0,.slice none 0 0,.slice none 0 0] 49))
 have HB:=hidden ((Below.refl w.heap.size w).alloc (Nat.le_refl _) (.cells #[.int .i64 0,.slice none 0 0,.int .i64 0,.slice none 0 0,.int .i64 0,.slice none 0 0,.int .i64 0,.slice none 0 0,.int .i64 0,.slice none 0 0,.int .i64 0,.slice none 0 0,.int .i64 0,.slice none 0 0,.slice none 0 0,.slice none 0 0] 49))
 have HZ:Hid (PvIn (w.alloc (.cells #[.int .i64 0,.slice none 0 0,.int .i64 0,.slice none 0 0,.int .i64 0,.slice none 0 0,.int .i64 0,.slice none 0 0,.int .i64 0,.slice none 0 0,.int .i64 0,.slice none 0 0,.int .i64 0,.slice none 0 0,.slice none 0 0,.slice none 0 0] 49)) w.heap.size zeroP):=hidden (PvIn.new w zeroP 49)
 have b0:=nthB_rng h.rng 0
 have b1:=nthB_rng h.rng 1
 have b2:=nthB_rng h.rng 2
 have b3:=nthB_rng h.rng 3
 obtain ⟨E,hE⟩ : ∃ E,identE xs n=E:=⟨_,rfl⟩
 rw [hE]
 unfold identE at hE
 by_cases h4:n<4
 ·rw [if_pos h4] at hE
  subst hE
  clear h
  go_enter Tryz.func84,Tryz.ntmps84
  go_wp2_with (first
   | (go_at_call 101;(with_reducible refine (split_any _ _ _ _ _ H1.out hb).mono ?_);rintro e w2 ⟨hb2,⟨-,rfl⟩ | ⟨k4,-⟩⟩;rotate_left;(exact absurd k4 (by omega));have HB2:=hidden ((HB.out.trans (hb2.mono HB.out.size)).alloc (HB.out.trans (hb2.mono HB.out.size)).size (.cells #[.int .u8 0,.int .u8 0,.int .u8 0,.int .u8 0] 164));have HZ2:=hidden ((HZ.out.below hb2).alloc (.cells #[.int .u8 0,.int .u8 0,.int .u8 0,.int .u8 0] 164));obtain ⟨z0,z1,z2,z3,z4,z5,z6,z7,z8,z9,z10,z11,z12,z13,z14,z15,zf⟩:=HZ2.out;clear hb2)
   | fail)
  have hz:=stored_pv HZ2.out HB2.out (Nat.le_refl _) zeroP
  simp only [setPv,zeroP,nilV] at hz
  exact ret_pv (g:=w.heap.size) rfl rfl rfl rfl hz.1 ⟨_,rfl,hz.2,fun h=>by cases h⟩
 ·rw [if_neg h4] at hE
  have HCI:=hidden (fun q d=>checkIdentity_any (nthB xs 0) q (n - 4) d · (by omega) E hE)
  have HV:=hidden (show val (([nthB xs 0,nthB xs 1,nthB xs 2,nthB xs 3].drop 0).take 1)=nthB xs 0 by simp [val])
  clear h hE
  go_enter Tryz.func84,Tryz.ntmps84
  go_upto_region 5 with (first
   | (go_at_call 101;(with_reducible refine (split_any _ _ _ _ _ H1.out hb).mono ?_);rintro e w2 ⟨hb2,⟨k4,-⟩ | ⟨-,q2,d2,rfl,hf⟩⟩;(exact absurd k4 h4);have HB2:=hidden ((HB.out.trans (hb2.mono HB.out.size)).alloc (HB.out.trans (hb2.mono HB.out.size)).size (.cells #[.int .u8 (nthB xs 0),.int .u8 (nthB xs 1),.int .u8 (nthB xs 2),.int .u8 (nthB xs 3)] 164));have HZ2:=hidden ((HZ.out.below hb2).alloc (.cells #[.int .u8 (nthB xs 0),.int .u8 (nthB xs 1),.int .u8 (nthB xs 2),.int .u8 (nthB xs 3)] 164));have HF2:=hidden (hf.alloc (.cells #[.int .u8 (nthB xs 0),.int .u8 (nthB xs 1),.int .u8 (nthB xs 2),.int .u8 (nthB xs 3)] 164));clear hb2 hf)
   | (go_at_call 102;(with_reducible refine (fnumber_any _ _ _ _ b0 b1 b2 b3 0 1 0 1 rfl rfl (by omega) (by omega) _ HV.out _).mono ?_);rintro e w3 ⟨rfl,hb3⟩;have HB3:=hidden (HB2.out.trans (hb3.mono HB2.out.size));have HZ3:=hidden (HZ2.out.below hb3);have HF3:=hidden (HF2.out.below hb3);clear hb3 HB2 HZ2 HF2)
   | fail)
  have HB4:=hidden (HB3.out.alloc HB3.out.size (.cells #[.int .i64 (nthB xs 0),.slice q2 (n - 4) d2] 39))
  have HZ4:=hidden (HZ3.out.alloc (.cells #[.int .i64 (nthB xs 0),.slice q2 (n - 4) d2] 39))
  have HF4:=hidden (HF3.out.alloc (.cells #[.int .i64 (nthB xs 0),.slice q2 (n - 4) d2] 39))
  have d0:(w3.alloc (.cells #[.int .i64 (nthB xs 0),.slice q2 (n - 4) d2] 39)).cell? ⟨w3.heap.size,0,none⟩=some (.int .i64 (nthB xs 0)):=by go_simp
  have d1:(w3.alloc (.cells #[.int .i64 (nthB xs 0),.slice q2 (n - 4) d2] 39)).cell? ⟨w3.heap.size,1,none⟩=some (.slice q2 (n - 4) d2):=by go_simp
  generalize hw4:w3.alloc (.cells #[.int .i64 (nthB xs 0),.slice q2 (n - 4) d2] 39)=w4 at *
  have hgl:=HZ3.out.lt
  generalize w3.heap.size=g3 at *
  have hn1:¬ g3=w.heap.size:=by omega
  have hn2:¬ w.heap.size=g3:=by omega
  have hgk:w.heap.size<(w.alloc (.cells #[.int .i64 0,.slice none 0 0,.int .i64 0,.slice none 0 0,.int .i64 0,.slice none 0 0,.int .i64 0,.slice none 0 0,.int .i64 0,.slice none 0 0,.int .i64 0,.slice none 0 0,.int .i64 0,.slice none 0 0,.slice none 0 0,.slice none 0 0] 49)).heap.size:=by simp
  have HKG:=hidden hgk
  clear hw4 HB3 HZ3 HF3 hgk hgl
  go_upto_region 5 with fail
  have HK:=hidden (fun wx (hb:Below w4.heap.size w4 wx)=>And.intro (cell_below hb _ _ d0) (cell_below hb _ _ d1))
  have HBD:=hidden (show Below w4.heap.size w4 w4.drew from drew_below ⟨1,rfl⟩)
  have HZD:=hidden (HZ4.out.below (w':=w4.drew) HBD.out)
  obtain ⟨y0,y1,y2,y3,y4,y5,y6,y7,y8,y9,y10,y11,y12,y13,y14,y15,z0,z1,z2,z3,z4,z5,z6,z7,z8,z9,z10,z11,z12,z13,z14,z15,zf⟩:=HZD.out.any
  go_region_with
   (first
   | (go_at_call 104;(with_reducible refine (HCI.out _ q2 d2).mono ?_);rintro e w5 ⟨rfl,hbc⟩;have hB:=HBD.out.trans hbc;have HB5:=hidden (HB4.out.trans (hB.mono HB4.out.size));have HZ5:=hidden (HZ4.out.below hB);have HF5:=hidden (HF4.out.below hB);obtain ⟨d0',d1'⟩:=HK.out _ hB;clear z0 z1 z2 z3 z4 z5 z6 z7 z8 z9 z10 z11 z12 z13 z14 z15 zf y0 y1 y2 y3 y4 y5 y6 y7 y8 y9 y10 y11 y12 y13 y14 y15;obtain ⟨y0,y1,y2,y3,y4,y5,y6,y7,y8,y9,y10,y11,y12,y13,y14,y15,z0,z1,z2,z3,z4,z5,z6,z7,z8,z9,z10,z11,z12,z13,z14,z15,zf⟩:=HZ5.out.any;clear hB)
   | fail)
  all_goals
   have hz:=stored_pv HZ5.out HB5.out (Nat.le_refl _) ⟨0,nilV,0,nilV,nthB xs 0,⟨q2,n - 4,d2⟩,0,nilV,0,nilV,0,nilV,0,nilV,nilV,nilV⟩
   have hfl:=(HF5.out.low (setPv_grown w5 w.heap.size ⟨0,nilV,0,nilV,nthB xs 0,⟨q2,n - 4,d2⟩,0,nilV,0,nilV,0,nilV,0,nilV,nilV,nilV⟩) HKG.out).mono (Nat.le_of_lt HKG.out)
   simp only [setPv,nilV] at hz hfl
   have HZZ:=hidden hz
   have HFF:=hidden hfl
   clear hz hfl hbc
   go_wp2
   exact ret_pv (g:=w.heap.size) rfl rfl rfl rfl HZZ.out.1 ⟨_,rfl,HZZ.out.2,fun _=>⟨rfl,HFF.out⟩⟩
end Go.Proofs.YtgpigjoonhghhaaGreat

namespace Go.Proofs.YtgpigjoonhghhaaGreat
open Go.RowKit
set_option linter.unusedVariables false
set_option maxHeartbeats 800000 in
set_option maxRecDepth 100000 in
theorem data_read (p:Option Addr) (n c:Nat) (xs:List Int) (w:World) (h:Byt w p n c xs) (hb:n≤140737488355328) :
  Calls Tryz.prog 90 #[.slice p n c] w (ReadPv w 0 fun w' x=>FrV w' w.heap.size x.da xs):=by
 have hn:=h.le
 have H1:=hidden (h.alloc (.cells #[.int .i64 0,.slice none 0 0,.int .i64 0,.slice none 0 0,.int .i64 0,.slice none 0 0,.int .i64 0,.slice none 0 0,.int .i64 0,.slice none 0 0,.int .i64 0,.slice none 0 0,.int .i64 0,.slice none 0 0,.slice none 0 0,.slice none 0 0] 49))
 have HB:=hidden ((Below.refl w.heap.size w).alloc (Nat.le_refl _) (.cells #[.int .i64 0,.slice none 0 0,.int .i64 0,.slice none 0 0,.int .i64 0,.slice none 0 0,.int .i64 0,.slice none 0 0,.int .i64 0,.slice none 0 0,.int .i64 0,.slice none 0 0,.int .i64 0,.slice none 0 0,.slice none 0 0,.slice none 0 0] 49))
 have HZ:Hid (PvIn (w.alloc (.cells #[.int .i64 0,.slice none 0 0,.int .i64 0,.slice none 0 0,.int .i64 0,.slice none 0 0,.int .i64 0,.slice none 0 0,.int .i64 0,.slice none 0 0,.int .i64 0,.slice none 0 0,.int .i64 0,.slice none 0 0,.slice none 0 0,.slice none 0 0] 49)) w.heap.size zeroP):=hidden (PvIn.new w zeroP 49)
 have HL:=hidden h.len
 have HR:=hidden h.rng
 clear h
 go_enter Tryz.func90,Tryz.ntmps90
 go_wp2_with (first
  | (go_at_call 106;(with_reducible refine (cloneB_any _ _ _ _ _ H1.out hb).mono ?_);rintro e w2 ⟨v2,rfl,ho,hbc⟩;obtain ⟨q2,d2,rfl,hf0⟩:=ho.frs HL.out HR.out;have HF0:=hidden hf0;have HB2:=hidden (HB.out.trans (hbc.mono HB.out.size));have HZ2:=hidden (HZ.out.below hbc);obtain ⟨z0,z1,z2,z3,z4,z5,z6,z7,z8,z9,z10,z11,z12,z13,z14,z15,zf⟩:=HZ2.out;clear ho hbc hf0)
  | fail)
 have hlo:=setPv_grown w2 w.heap.size ⟨0,nilV,0,nilV,0,nilV,0,nilV,0,nilV,0,nilV,0,nilV,nilV,⟨q2,n,d2⟩⟩
 have hz:=setPv_in HZ2.out ⟨0,nilV,0,nilV,0,nilV,0,nilV,0,nilV,0,nilV,0,nilV,nilV,⟨q2,n,d2⟩⟩
 have hfl:=(HF0.out.low hlo (by simp)).mono (show w.heap.size≤_ from HB.out.size)
 have HBS:=hidden (HB2.out.grown hlo HB2.out.size (fun j hj=>by cases hj;exact Nat.le_refl _))
 simp only [setPv,nilV] at hz hfl HBS
 have HZZ:=hidden hz
 have HFF:=hidden hfl
 clear hz hfl hlo
 refine ret_pv (g:=w.heap.size) rfl rfl rfl rfl HZZ.out ?_
 exact ⟨_,rfl,HBS.out,fun _=>HFF.out⟩
end Go.Proofs.YtgpigjoonhghhaaGreat

namespace Go.Proofs.YtgpigjoonhghhaaGreat
open Go
set_option linter.unusedVariables false
section
variable {P:Program} {ops:Array Oper} {Q:Exit→Act→World→Prop} {md:Region.Mode} {c:Nat} {S0 S1:World→Prop}
def anyC (P:Program) (md:Region.Mode) (ops:Array Oper) (Q:Exit→Act→World→Prop) (c:Nat) (S0 S1:World→Prop):Nat→Array Bool→Act→World→Prop
 | 0,l,a,w=>Region.ready md ops l=[]∧Q .normal a w
 | n+1,l,a,w=>(Region.ready md ops l=[]→Q .normal a w) ∧
   ∀ i∈Region.ready md ops l,wpOp P ops Q i (fun a' w'=>(S0 w'∧((l.setIfInBounds i true).getD c true=false→S1 w'))∧anyC P md ops Q c S0 S1 n (l.setIfInBounds i true) a' w') a w
theorem any_of_C : ∀ (n:Nat) (l:Array Bool) (a:Act) (w:World),anyC P md ops Q c S0 S1 n l a w→wpAny P md ops Q n l a w
 | 0,_,_,_,h=>h
 | n+1,_,_,_,h=>⟨h.1,fun i hi=>wpOp_mono (fun a' w' k=>any_of_C n _ a' w' k.2) (h.2 i hi)⟩
theorem anyC_first (B:Bool) {i:Nat} {oi oc:Oper} {v:Value} (hi:ops[i]?=some oi) (hsel : ∀ (j:Nat) (o:Oper) cs b,ops[j]?=some o→o.op≠.select cs b)
  (hQ : ∀ ch a w,Q (.panic ch) (a.put oi.dst v) w→Q (.panic ch) a w) (hic:i≠c) (hoc:ops[c]?=some oc) (hB:B=true→∃ e∈oc.after,Region.binds md e=true∧e.on=i) :
  ∀ (n:Nat) (l:Array Bool) (a:Act) (w:World),
   (∀ j oj,ops[j]?=some oj→j≠i→l.getD j true=false→(∀ e∈oj.after,Region.binds md e=true→e.on≠i)→oi.apart ops oj=true) →
   i∈Region.ready md ops l→(B=true→l.getD c true=false)→YieldsIf P ops (fun w=>S0 w∧(B=true→S1 w)) oi v a→S0 w→(l.getD c true=false→S1 w) →
   anyC P md ops Q c S0 S1 n (l.setIfInBounds i true) (a.put oi.dst v) w→anyC P md ops Q c S0 S1 (n+1) l a w:=by
 intro n
 induction n with
 | zero =>
  intro l a w _ hr hl hy h0 h1 H
  refine ⟨fun h=>(by rw [h] at hr;cases hr),fun j hj=>?_⟩
  by_cases hji:j=i
  ·subst hji
   exact hy.wpOp hi ⟨h0,fun hb=>h1 (hl hb)⟩ ⟨⟨h0,fun hc=>h1 (by rw [getD_set_ne true hic] at hc;exact hc)⟩,H⟩
  ·have:=ready_mono hj hji
   rw [H.1] at this
   cases this
 | succ n ih =>
  intro l a w hfree hr hl hy h0 h1 H
  refine ⟨fun h=>(by rw [h] at hr;cases hr),fun j hj=>?_⟩
  by_cases hji:j=i
  ·subst hji
   exact hy.wpOp hi ⟨h0,fun hb=>h1 (hl hb)⟩ ⟨⟨h0,fun hc=>h1 (by rw [getD_set_ne true hic] at hc;exact hc)⟩,H⟩
  ·have k1:=H.2 j (ready_mono hj hji)
   obtain ⟨hjun,oj,hoj,hall⟩:=mem_ready.1 hj
   have hnot : ∀ e∈oj.after,Region.binds md e=true→e.on≠i:=fun e he hb heq=>by
    have g1:=hall e he hb
    have g0:=(mem_ready.1 hr).1
    rw [heq] at g1
    rcases Nat.lt_or_ge i l.size with h' | h'
    ·simp [h'] at g0 g1
     rw [g0] at g1
     cases g1
    ·simp [Array.getElem?_eq_none h'] at g1
   have k2:=wpOp_putIf hoj (hfree j oj hoj hji hjun hnot) (fun cs b=>hsel i oi cs b hi) (fun cs b=>hsel j oj cs b hoj) hQ hy k1
   have hfree' : ∀ k ok,ops[k]?=some ok→k≠i→(l.setIfInBounds j true).getD k true=false→(∀ e∈ok.after,Region.binds md e=true→e.on≠i)→oi.apart ops ok=true:=fun k ok hk hki hun hno=>by
    refine hfree k ok hk hki ?_ hno
    by_cases hjk:j=k
    ·subst hjk;exact hjun
    ·rw [getD_set_ne true hjk] at hun;exact hun
   have hjc:B=true→j≠c:=fun hb e=>by
    subst e
    obtain ⟨e,he,hbe,hon⟩:=hB hb
    rw [hoc] at hoj
    cases hoj
    exact hnot e he hbe hon
   have hlc:B=true→(l.setIfInBounds j true).getD c true=false:=fun hb=>by rw [getD_set_ne true (hjc hb)];exact hl hb
   have hcc : ∀ l':Array Bool,((l'.setIfInBounds i true).setIfInBounds j true).getD c true=(l'.setIfInBounds j true).getD c true:=fun l'=>by
    rw [Array.setIfInBounds_comm _ _ (Ne.symm hji),getD_set_ne true hic]
   refine wpOp_mono (fun a' w' k3=>?_) k2
   obtain ⟨hy',⟨g0,g1⟩,hrest⟩:=k3
   rw [hcc] at g1
   refine ⟨⟨g0,g1⟩,ih (l.setIfInBounds j true) a' w' hfree' (ready_mono hr (Ne.symm hji)) hlc ?_ g0 g1 ?_⟩
   ·exact hy'
   ·rw [Array.setIfInBounds_comm _ _ hji]
    exact hrest
theorem anyC_take {i:Nat} {oi oc:Oper} {v:Value} {n:Nat} {l:Array Bool} {a:Act} {w:World} (hi:ops[i]?=some oi) (hoc:ops[c]?=some oc) (hic:i≠c)
  (hs:Region.noSelect ops=true) (hf:Region.free md ops l i=true) (hr:(Region.ready md ops l).contains i=true)
  (hQ : ∀ ch a w,Q (.panic ch) (a.put oi.dst v) w→Q (.panic ch) a w) (hy:YieldsIf P ops S0 oi v a) (h0:S0 w) (h1:l.getD c true=false→S1 w)
  (h:anyC P md ops Q c S0 S1 n (l.setIfInBounds i true) (a.put oi.dst v) w):anyC P md ops Q c S0 S1 (n+1) l a w :=
 anyC_first false hi (Region.noSelect_spec hs) hQ hic hoc (fun h=>by cases h) n l a w (Region.free_spec hi hf) (by simpa using hr) (fun h=>by cases h)
  (hy.imp (fun ⟨a,b⟩=>⟨a,fun w k=>b w k.1⟩) id) h0 h1 h
theorem anyC_take1 {i:Nat} {oi oc:Oper} {v:Value} {n:Nat} {l:Array Bool} {a:Act} {w:World} (hi:ops[i]?=some oi) (hoc:ops[c]?=some oc) (hic:i≠c)
  (hw:(oc.after.any fun e=>Region.binds md e && e.on == i)=true) (hl:l.getD c true=false)
  (hs:Region.noSelect ops=true) (hf:Region.free md ops l i=true) (hr:(Region.ready md ops l).contains i=true)
  (hQ : ∀ ch a w,Q (.panic ch) (a.put oi.dst v) w→Q (.panic ch) a w) (hy:YieldsIf P ops (fun w=>S0 w∧S1 w) oi v a) (h0:S0 w) (h1:S1 w)
  (h:anyC P md ops Q c S0 S1 n (l.setIfInBounds i true) (a.put oi.dst v) w):anyC P md ops Q c S0 S1 (n+1) l a w :=
 anyC_first true hi (Region.noSelect_spec hs) hQ hic hoc (fun _=>by
   obtain ⟨j,hj,he⟩:=Array.any_eq_true.1 hw
   simp only [Bool.and_eq_true,beq_iff_eq] at he
   exact ⟨_,Array.getElem_mem hj,he.1,he.2⟩) n l a w (Region.free_spec hi hf) (by simpa using hr) (fun _=>hl)
  (hy.imp (fun ⟨a,b⟩=>⟨a,fun w k=>b w ⟨k.1,k.2 rfl⟩⟩) id) h0 (fun _=>h1) h
theorem anyC_one {i:Nat} {o:Oper} {n:Nat} {l:Array Bool} {a:Act} {w:World} (hr:Region.ready md ops l=[i]) (ho:ops[i]?=some o)
  (h : ∀ K':Act→World→Prop,Shut (∀ a w,S0 w→((l.setIfInBounds i true).getD c true=false→S1 w)→anyC P md ops Q c S0 S1 n (l.setIfInBounds i true) a w→K' a w) →
   if Region.wanted o (yielded ops a.tmps)=true then Oper.wp P o a w K' Q else K' (a.put o.dst undef) w):anyC P md ops Q c S0 S1 (n+1) l a w :=
 ⟨fun h0=>(by rw [hr] at h0;cases h0),fun j hj=>(by
  rw [hr] at hj
  have e:j=i:=by simpa using hj
  subst e
  exact wpOp_step ho fun K' hK=>h K' fun a w h0 h1 k=>hK a w ⟨⟨h0,h1⟩,k⟩)⟩
theorem anyC_done {l:Array Bool} {a:Act} {w:World} (hr:Region.ready md ops l=[]) (h:Q .normal a w) : ∀ n,anyC P md ops Q c S0 S1 n l a w
 | 0=>⟨hr,h⟩
 | _+1=>⟨fun _=>h,by rw [hr];simp⟩
theorem region_C {id:Nat} {a:Act} {w:World} (c:Nat) (S0 S1:World→Prop) (hm:P.follows .mixedOrders=true) (h0:S0 w.drew) (h1:S1 w.drew)
  (h:S0 w.drew→S1 w.drew→anyC P .any ops Q c S0 S1 ops.size (Array.replicate ops.size false) a w.drew):(Code.region id ops true).wp P Q a w :=
 wp_region_any hm (any_of_C _ _ _ _ (h h0 h1))
end
end Go.Proofs.YtgpigjoonhghhaaGreat

namespace Go.Proofs.YtgpigjoonhghhaaGreat
open Go.RowKit
set_option linter.unusedVariables false
structure Hdr where
 i:Int
 r:Int
 n:Int
 x:Int
 f:Int
 m:Int
structure Hdr.Ok (h:Hdr):Prop where
 i:0≤h.i∧h.i≤18446744073709551615
 r:0≤h.r∧h.r≤18446744073709551615
 n : -9223372036854775808≤h.n∧h.n≤9223372036854775807
 x : -9223372036854775808≤h.x∧h.x≤9223372036854775807
 f : -9223372036854775808≤h.f∧h.f≤9223372036854775807
 m:0≤h.m∧h.m≤4294967295
def rangeR (n x f:Int):Bool:=decide (34≤x∧x≤37∧0≤n∧n≤255) && (bits BinOp.andNot IntKind.i64 f 56 == 0)
def checkR (i r n x f m:Int):Int :=
 if i=0 then 20 else if rangeR n x f=false then 5 else if x≠34∧r=0 then 20 else if x=34∧m≠0 then 7 else 0
theorem request_any (i r n x f m:Int) (w:World) :
  Calls Tryz.prog 71 #[.agg #[.int .u64 i,.int .u64 r,.int .i64 n,.int .i64 x,.int .i64 f,.int .u32 m]] w fun e w'=>e=.returned (.bool (bits BinOp.and IntKind.i64 f 32 == 0))∧Below w.heap.size w w':=by
 go_enter Tryz.func71,Tryz.ntmps71
 go_wp2
 all_goals go_ret
 all_goals exact ⟨rfl,(Below.refl _ _).alloc (Nat.le_refl _) _⟩
end Go.Proofs.YtgpigjoonhghhaaGreat

namespace Go.Proofs.YtgpigjoonhghhaaGreat
open Go.RowKit
set_option linter.unusedVariables false
structure HdrIn (w:World) (g o:Nat) (i r n x f m:Int):Prop where
 c0:w.cell? ⟨g,o,none⟩=some (.int .u64 i)
 c1:w.cell? ⟨g,o+1,none⟩=some (.int .u64 r)
 c2:w.cell? ⟨g,o+2,none⟩=some (.int .i64 n)
 c3:w.cell? ⟨g,o+3,none⟩=some (.int .i64 x)
 c4:w.cell? ⟨g,o+4,none⟩=some (.int .i64 f)
 c5:w.cell? ⟨g,o+5,none⟩=some (.int .u32 m)
 fr : ∀ j,w.frozen? ⟨g,j,none⟩=false
theorem HdrIn.lt {w:World} {g o:Nat} {i r n x f m:Int} (h:HdrIn w g o i r n x f m):g<w.heap.size:=World.block_lt_of_cell? w _ h.c0
theorem HdrIn.grown {w w':World} {g o:Nat} {i r n x f m:Int} {row:Option Nat} (h:HdrIn w g o i r n x f m) (hg:w.grownBy w' row) (hne:some g≠row):HdrIn w' g o i r n x f m :=
 ⟨hg.cell h.c0 hne,hg.cell h.c1 hne,hg.cell h.c2 hne,hg.cell h.c3 hne,hg.cell h.c4 hne,hg.cell h.c5 hne,fun j=>(World.frozen?_of_block (a:=⟨g,j,none⟩) (hg.block g h.lt hne)).trans (h.fr j)⟩
theorem HdrIn.below {w w':World} {g o:Nat} {i r n x f m:Int} (h:HdrIn w g o i r n x f m) (hb:Below w.heap.size w w'):HdrIn w' g o i r n x f m:=h.grown (row:=none) (grown_of_below hb none) (by simp)
theorem HdrIn.alloc {w:World} {g o:Nat} {i r n x f m:Int} (h:HdrIn w g o i r n x f m) (b:Obj):HdrIn (w.alloc b) g o i r n x f m:=h.below ((Below.refl _ _).alloc (Nat.le_refl _) b)
theorem HdrIn.new (w:World) (i r n x f m:Int) (T:TypeId):HdrIn (w.alloc (.cells #[.int .u64 i,.int .u64 r,.int .i64 n,.int .i64 x,.int .i64 f,.int .u32 m] T)) w.heap.size 0 i r n x f m :=
 ⟨by go_simp,by go_simp,by go_simp,by go_simp,by go_simp,by go_simp,fun j=>by go_simp⟩
section
variable {w:World} {g:Nat} {i r n x f m:Int}
theorem HdrIn.set0 (h:HdrIn w g 0 i r n x f m) (z:Int):HdrIn (w.setCell ⟨g,0,none⟩ (.int .u64 z)) g 0 z r n x f m:=by
 obtain ⟨c0,c1,c2,c3,c4,c5,fr⟩:=h
 exact ⟨by go_simp,by go_simp,by go_simp,by go_simp,by go_simp,by go_simp,fun j=>by rw [World.frozen?_setCell];exact fr j⟩
theorem HdrIn.set1 (h:HdrIn w g 0 i r n x f m) (z:Int):HdrIn (w.setCell ⟨g,1,none⟩ (.int .u64 z)) g 0 i z n x f m:=by
 obtain ⟨c0,c1,c2,c3,c4,c5,fr⟩:=h
 exact ⟨by go_simp,by go_simp,by go_simp,by go_simp,by go_simp,by go_simp,fun j=>by rw [World.frozen?_setCell];exact fr j⟩
theorem HdrIn.set2 (h:HdrIn w g 0 i r n x f m) (z:Int):HdrIn (w.setCell ⟨g,2,none⟩ (.int .i64 z)) g 0 i r z x f m:=by
 obtain ⟨c0,c1,c2,c3,c4,c5,fr⟩:=h
 exact ⟨by go_simp,by go_simp,by go_simp,by go_simp,by go_simp,by go_simp,fun j=>by rw [World.frozen?_setCell];exact fr j⟩
theorem HdrIn.set3 (h:HdrIn w g 0 i r n x f m) (z:Int):HdrIn (w.setCell ⟨g,3,none⟩ (.int .i64 z)) g 0 i r n z f m:=by
 obtain ⟨c0,c1,c2,c3,c4,c5,fr⟩:=h
 exact ⟨by go_simp,by go_simp,by go_simp,by go_simp,by go_simp,by go_simp,fun j=>by rw [World.frozen?_setCell];exact fr j⟩
theorem HdrIn.set4 (h:HdrIn w g 0 i r n x f m) (z:Int):HdrIn (w.setCell ⟨g,4,none⟩ (.int .i64 z)) g 0 i r n x z m:=by
 obtain ⟨c0,c1,c2,c3,c4,c5,fr⟩:=h
 exact ⟨by go_simp,by go_simp,by go_simp,by go_simp,by go_simp,by go_simp,fun j=>by rw [World.frozen?_setCell];exact fr j⟩
theorem HdrIn.set5 (h:HdrIn w g 0 i r n x f m) (z:Int):HdrIn (w.setCell ⟨g,5,none⟩ (.int .u32 z)) g 0 i r n x f z:=by
 obtain ⟨c0,c1,c2,c3,c4,c5,fr⟩:=h
 exact ⟨by go_simp,by go_simp,by go_simp,by go_simp,by go_simp,by go_simp,fun j=>by rw [World.frozen?_setCell];exact fr j⟩
end
end Go.Proofs.YtgpigjoonhghhaaGreat

namespace Go.Proofs.YtgpigjoonhghhaaGreat
open Go.RowKit
set_option linter.unusedVariables false
theorem load_hdr {w:World} {g o:Nat} {i r n x f m:Int} (h:HdrIn w g o i r n x f m):(loadVar 29 ⟨g,o,none⟩).run Tryz.prog w=.ok (.agg #[.int .u64 i,.int .u64 r,.int .i64 n,.int .i64 x,.int .i64 f,.int .u32 m]) w:=by
 obtain ⟨c0,c1,c2,c3,c4,c5,fr⟩:=h
 simp [loadVar,go_sem,c0,c1,c2,c3,c4,c5,Result.andThen]
theorem ret_hdr {fn:Func} {R:Ending→World→Prop} {a:Act} {w:World} {p:Nat} {g:Nat} {i r n x f m:Int} (h:fn.results=#[.cell p 29]) (hp:a.tmps.getD p undef=.pointer (some ⟨g,0,none⟩)) (hd:a.defers=[])
  (hh:HdrIn w g 0 i r n x f m) (hR:R (.returned (.agg #[.int .u64 i,.int .u64 r,.int .i64 n,.int .i64 x,.int .i64 f,.int .u32 m])) w):bodyPost Tryz.prog fn R .ret a w:=by
 refine bodyPost_ret (v:=.agg #[.int .u64 i,.int .u64 r,.int .i64 n,.int .i64 x,.int .i64 f,.int .u32 m]) ?_ hd hR
 rw [Array.getD_eq_getD_getElem?] at hp
 simp [results,h,hp,asAddr,load_hdr hh]
end Go.Proofs.YtgpigjoonhghhaaGreat

namespace Go.Proofs.YtgpigjoonhghhaaGreat
open Go.RowKit
set_option linter.unusedVariables false
set_option maxHeartbeats 400000 in
theorem word_any (W w:World) (k:Nat) (h:Cod W w k) :
  Calls Tryz.prog 31 #[.pointer (some ⟨k,0,none⟩)] w fun e w'=>∃ r:Int,e=.returned (.int .u64 r)∧0≤r∧r≤18446744073709551615∧Cod W w' k∧w.grownBy w' (some k):=by
 have H:=hidden h
 clear h
 go_enter Tryz.func31,Tryz.ntmps31
 go_wp2_with (go_at_call 10;refine (next_any W _ k H.out _ ?_).mono ?_;omega)
 rintro e w1 ⟨r,rfl,r0,r1,hc,hg⟩
 have HC:=hidden hc
 have HG:=hidden hg
 clear hc hg H
 by_cases h0:r=0
 ·subst h0
  go_wp2_with (go_at_call 10;refine (next_any W _ k HC.out _ ?_).mono ?_;omega;rintro e w2 ⟨r2,rfl,r3,r4,hc2,hg2⟩;have HC2:=hidden hc2;have HG2:=hidden (grown_trans HG.out hg2);clear hc2 hg2)
  go_ret
  exact ⟨r2,rfl,r3,by omega,HC2.out,HG2.out⟩
 by_cases h1:r=1
 ·subst h1
  go_wp2_with (go_at_call 10;refine (next_any W _ k HC.out _ ?_).mono ?_;omega;rintro e w2 ⟨r2,rfl,r3,r4,hc2,hg2⟩;have HC2:=hidden hc2;have HG2:=hidden (grown_trans HG.out hg2);clear hc2 hg2)
  go_ret
  exact ⟨18446744073709551615 - r2,rfl,by omega,by omega,HC2.out,HG2.out⟩
 have e0:(r == 0)=false:=by simpa using h0
 have e1:(r == 1)=false:=by simpa using h1
 go_wp2
 go_loopw [3,4] (fun v i wr=>∃ j:Nat,j≤8∧i=.int .i64 j∧∃ z:Int,v=.int .u64 z∧0≤z∧z≤18446744073709551615∧Cod W wr k∧w.grownBy wr (some k)) (fun _ i _=>8 - (intOf i).toNat)
 case atStart=>exact ⟨0,by omega,rfl,0,rfl,by omega,by omega,HC.out,HG.out⟩
 case round =>
  obtain ⟨j,hj,rfl,z,rfl,z0,z1,hc,hg⟩:=hrel
  have HC1:=hidden hc
  have HG1:=hidden hg
  clear hc hg HC HG
  by_cases hlt:j<8
  ·go_wp2_with (go_at_call 10;refine (next_any W _ k HC1.out _ ?_).mono ?_;omega;rintro e w2 ⟨r2,rfl,r3,r4,hc2,hg2⟩;have HC2:=hidden hc2;have HG2:=hidden (grown_trans HG1.out hg2);clear hc2 hg2)
   go_roundw
   case rel=>exact ⟨j+1,by omega,by go_num,_,rfl,bits_lo_u64 _ _ _,bits_hi_u64 _ _ _,HC2.out,HG2.out⟩
   case measure=>simp [intOf];omega
  ·obtain rfl:j=8:=by omega
   go_wp2
   go_ret
   exact ⟨z,rfl,z0,z1,HC1.out,HG1.out⟩
end Go.Proofs.YtgpigjoonhghhaaGreat

namespace Go.Proofs.YtgpigjoonhghhaaGreat
open Go.RowKit
set_option linter.unusedVariables false
structure Good (i r n x f m:Int):Prop where
 gi:1≤i∧i≤18446744073709551615
 gr:0≤r∧r≤18446744073709551615
 gn:n=0
 gx:34≤x∧x≤37
 gf:f=8∨f=32∨f=40∨f=0
 gm:0≤m∧m≤255
 first:x=34→m=0
 later:x≠34→r≠0
theorem stored_hdr {w:World} {g:Nat} {i r n x f m i' r' n' x' f' m':Int} (h:HdrIn w g 0 i r n x f m) :
  HdrIn ((((((w.setCell ⟨g,0,none⟩ (.int .u64 i')).setCell ⟨g,1,none⟩ (.int .u64 r')).setCell ⟨g,2,none⟩ (.int .i64 n')).setCell ⟨g,3,none⟩ (.int .i64 x')).setCell ⟨g,4,none⟩ (.int .i64 f')).setCell ⟨g,5,none⟩ (.int .u32 m')) g 0 i' r' n' x' f' m' :=
 (((((h.set0 _).set1 _).set2 _).set3 _).set4 _).set5 _
theorem HdrIn.set_ne {w:World} {g o:Nat} {i r n x f m:Int} (h:HdrIn w g o i r n x f m) (g' j:Nat) (v:Value) (hne:g≠g'):HdrIn (w.setCell ⟨g',j,none⟩ v) g o i r n x f m :=
 h.grown (grown_set w g' j v) (by simp;exact hne)
set_option maxHeartbeats 800000 in
theorem header_any (W w:World) (k:Nat) (h:Cod W w k) :
  Calls Tryz.prog 14 #[.pointer (some ⟨k,0,none⟩)] w fun e w'=>∃ i r n x f m:Int,e=.returned (.agg #[.int .u64 i,.int .u64 r,.int .i64 n,.int .i64 x,.int .i64 f,.int .u32 m])∧Good i r n x f m∧Cod W w' k∧w.grownBy w' (some k):=by
 have hk:=h.lt
 have hbase:=h.base
 have H:=hidden (h.alloc (.cells #[.int .u64 0,.int .u64 0,.int .i64 0,.int .i64 0,.int .i64 0,.int .u32 0] 29))
 clear h
 go_enter Tryz.func14,Tryz.ntmps14
 go_wp2_with (go_at_call 31;refine (word_any W _ k H.out).mono ?_)
 rintro e w1 ⟨i,rfl,i0,i1,hc,hg⟩
 have HC:=hidden hc
 have HR:=hidden ((HdrIn.new w 0 0 0 0 0 0 29).grown hg (by simp;omega))
 have HG:=hidden (grown_trans (World.grownBy_alloc w _ _) hg)
 clear hc hg H
 go_wp2_with (go_at_call 31;refine (word_any W _ k HC.out).mono ?_)
 rintro e w2 ⟨r,rfl,r0,r1,hc,hg⟩
 have HC2:=hidden hc
 have HR2:=hidden (HR.out.grown hg (by simp;omega))
 have HG2:=hidden (grown_trans HG.out hg)
 clear hc hg HC HR HG
 go_wp2_with (go_at_call 10;refine (next_any W _ k HC2.out _ ?_).mono ?_;omega)
 rintro e w3 ⟨x,rfl,x0,x1,hc,hg⟩
 have hk3:=hc.lt
 have HC3:=hidden (hc.alloc (.cells ((([8,32,40,0]:List Int).map (Value.int .i64)).toArray) 3))
 have HR3:=hidden (HR2.out.grown hg (by simp;omega))
 have HG3:=hidden (grown_trans HG2.out hg)
 clear hc hg HC2 HR2 HG2
 go_wp2_with (go_at_call 10;refine (next_any W _ k HC3.out _ ?_).mono ?_;omega)
 rintro e w4 ⟨j,rfl,j0,j1,hc,hg⟩
 obtain ⟨j,rfl⟩:=Int.eq_ofNat_of_zero_le j0
 have hcell:=hg.cell (ints_at w3 [8,32,40,0] 3 j (by simp;omega)) (by simp;omega)
 have hf:List.getD [8,32,40,0] j (0:Int)=8∨List.getD [8,32,40,0] j (0:Int)=32∨List.getD [8,32,40,0] j (0:Int)=40∨List.getD [8,32,40,0] j (0:Int)=0:=by
  have:j=0∨j=1∨j=2∨j=3:=by omega
  rcases this with rfl | rfl | rfl | rfl<;>simp
 generalize List.getD [8,32,40,0] j (0:Int)=f at hcell hf
 have HF:=hidden hf
 have HC4:=hidden hc
 have hh:=((HR3.out.grown (World.grownBy_alloc w3 _ none) (by simp)).grown hg (by simp;omega))
 have HR4:=hidden hh
 obtain ⟨q0,q1,q2,q3,q4,q5,qf⟩:=hh
 have HG4:=hidden (grown_trans (grown_trans HG3.out (World.grownBy_alloc w3 _ _)) hg)
 have hw4:=HR4.out.lt
 have hk4:=hc.lt
 have hs4:=HG4.out.size
 clear hc hg HC3 HR3 HG3 hf
 by_cases hx:x=0
 ·subst hx
  go_wp2
  all_goals refine ret_hdr (g:=w.heap.size) rfl rfl rfl (HdrIn.alloc (stored_hdr HR4.out) _) ?_
  all_goals have hf:=HF.out
  all_goals simp at *
  all_goals refine ⟨_,_,_,_,_,_,⟨rfl,rfl,rfl,rfl,rfl,rfl⟩,⟨by omega,by omega,by omega,by omega,by omega,by omega,by omega,by omega⟩,?_,?_⟩
  all_goals repeat' (first | with_reducible exact HC4.out | with_reducible exact HG4.out | (with_reducible refine Cod.alloc ?_ _) | (with_reducible refine Cod.set ?_ _ _ _ (by omega) (by omega)) | (with_reducible refine grown_alloc_new ?_ _) | (with_reducible refine grown_set_new ?_ _ _ _ (by omega)))
 ·have ex:(34+x == 34)=false:=by simp;omega
  go_wp2_with (go_at_call 10;refine (next_any W _ k (HC4.out.alloc _) _ ?_).mono ?_;omega)
  rintro e w5 ⟨m,rfl,m0,m1,hc,hg⟩
  have hh:=(HdrIn.new w4 i r 0 (34+x) f 0 29).grown hg (by simp;omega)
  have hr:=(HR4.out.alloc _).grown hg (by simp;omega)
  have HC5:=hidden hc
  have HG5:=hidden (grown_trans (grown_alloc_new HG4.out _) hg)
  have hw5:=hg.size
  simp at hw5
  clear q0 q1 q2 q3 q4 q5 qf HC4 HR4 HG4 hc hg hcell
  have HR5:=hidden hr
  obtain ⟨q0,q1,q2,q3,q4,q5,qf⟩:=hr
  obtain ⟨p0,p1,p2,p3,p4,p5,pf⟩:=hh
  go_wp2
  all_goals refine ret_hdr (g:=w.heap.size) rfl rfl rfl (stored_hdr (i:=0) (r:=0) (n:=0) (x:=0) (f:=0) (m:=0) (by repeat' (first | with_reducible exact HR5.out | (with_reducible refine HdrIn.set_ne ?_ _ _ _ (by omega))))) ?_
  all_goals have hf:=HF.out
  all_goals simp at *
  all_goals refine ⟨_,_,_,_,_,_,⟨rfl,rfl,rfl,rfl,rfl,rfl⟩,⟨by omega,by omega,by omega,by omega,by omega,by omega,by omega,by omega⟩,?_,?_⟩
  all_goals repeat' (first | with_reducible exact HC5.out | with_reducible exact HG5.out | (with_reducible refine Cod.alloc ?_ _) | (with_reducible refine Cod.set ?_ _ _ _ (by omega) (by omega)) | (with_reducible refine grown_alloc_new ?_ _) | (with_reducible refine grown_set_new ?_ _ _ _ (by omega)))
end Go.Proofs.YtgpigjoonhghhaaGreat

namespace Go.Proofs.YtgpigjoonhghhaaGreat
open Go.RowKit
set_option linter.unusedVariables false
structure Cur (w:World) (k:Nat) (p:Option Addr) (n c:Nat) (a e:Int):Prop where
 c0:w.cell? ⟨k,0,none⟩=some (.slice p n c)
 c1:w.cell? ⟨k,1,none⟩=some (.int .i64 a)
 c2:w.cell? ⟨k,2,none⟩=some (.int .i64 e)
 fr : ∀ j,w.frozen? ⟨k,j,none⟩=false
theorem Cur.lt {w:World} {k:Nat} {p:Option Addr} {n c:Nat} {a e:Int} (h:Cur w k p n c a e):k<w.heap.size:=World.block_lt_of_cell? w _ h.c0
theorem Cur.grown {w w':World} {k:Nat} {p:Option Addr} {n c:Nat} {a e:Int} {row:Option Nat} (h:Cur w k p n c a e) (hg:w.grownBy w' row) (hne:some k≠row):Cur w' k p n c a e :=
 ⟨hg.cell h.c0 hne,hg.cell h.c1 hne,hg.cell h.c2 hne,fun j=>(World.frozen?_of_block (a:=⟨k,j,none⟩) (hg.block k h.lt hne)).trans (h.fr j)⟩
theorem Cur.below {w w':World} {k:Nat} {p:Option Addr} {n c:Nat} {a e:Int} (h:Cur w k p n c a e) (hb:Below w.heap.size w w'):Cur w' k p n c a e:=h.grown (row:=none) (grown_of_below hb none) (by simp)
theorem Cur.alloc {w:World} {k:Nat} {p:Option Addr} {n c:Nat} {a e:Int} (h:Cur w k p n c a e) (o:Obj):Cur (w.alloc o) k p n c a e:=h.below ((Below.refl _ _).alloc (Nat.le_refl _) o)
theorem Cur.set_ne {w:World} {k:Nat} {p:Option Addr} {n c:Nat} {a e:Int} (h:Cur w k p n c a e) (g j:Nat) (v:Value) (hne:k≠g):Cur (w.setCell ⟨g,j,none⟩ v) k p n c a e:=h.grown (grown_set w g j v) (by simp;exact hne)
theorem Cur.step {w:World} {k:Nat} {p:Option Addr} {n c:Nat} {a e:Int} (h:Cur w k p n c a e) (z:Int):Cur (w.setCell ⟨k,1,none⟩ (.int .i64 z)) k p n c z e:=by
 obtain ⟨c0,c1,c2,fr⟩:=h
 exact ⟨by go_simp,by go_simp,by go_simp,fun j=>by rw [World.frozen?_setCell];exact fr j⟩
theorem Cur.fail {w:World} {k:Nat} {p:Option Addr} {n c:Nat} {a e:Int} (h:Cur w k p n c a e) (z:Int):Cur (w.setCell ⟨k,2,none⟩ (.int .i64 z)) k p n c a z:=by
 obtain ⟨c0,c1,c2,fr⟩:=h
 exact ⟨by go_simp,by go_simp,by go_simp,fun j=>by rw [World.frozen?_setCell];exact fr j⟩
def CurPart (w:World) (k:Nat) (p:Option Addr) (n c S:Nat):Prop:=∃ a e,Cur w k p n c a e∧((e=0∧a=S∧S≤n)∨e=1)
theorem CurPart.grown {w w':World} {k:Nat} {p:Option Addr} {n c S:Nat} {row:Option Nat} (h:CurPart w k p n c S) (hg:w.grownBy w' row) (hne:some k≠row):CurPart w' k p n c S:=by
 obtain ⟨a,e,hc,h⟩:=h
 exact ⟨a,e,hc.grown hg hne,h⟩
theorem CurPart.set_ne {w:World} {k:Nat} {p:Option Addr} {n c S:Nat} (h:CurPart w k p n c S) (g j:Nat) (v:Value) (hne:k≠g):CurPart (w.setCell ⟨g,j,none⟩ v) k p n c S:=h.grown (grown_set w g j v) (by simp;exact hne)
end Go.Proofs.YtgpigjoonhghhaaGreat

namespace Go.Proofs.YtgpigjoonhghhaaGreat
open Go.RowKit
set_option linter.unusedVariables false
def Hdr.zero:Hdr:=⟨0,0,0,0,0,0⟩
def parseV (v1 v2 v3 v4 v5 v6 v7 v8:Int) (n:Nat):Hdr × Int :=
 if v4 / 16≠2 then (Hdr.zero,3) else if v8≠n then (Hdr.zero,2)
 else if checkR v1 v2 v3 v5 (bits .and .i64 v6 56) v7≠0 then (Hdr.zero,checkR v1 v2 v3 v5 (bits .and .i64 v6 56) v7)
 else (⟨v1,v2,v3,v5,bits .and .i64 v6 56,v7⟩,0)
def numAt (xs:List Int) (a d:Nat):Int:=val ((xs.drop a).take d)
def parseR (xs:List Int):Hdr × Int :=
 if xs.length<28 then (Hdr.zero,1) else parseV (numAt xs 0 8) (numAt xs 8 8) (numAt xs 16 1) (numAt xs 17 1) (numAt xs 18 1) (numAt xs 19 1) (numAt xs 20 4) (numAt xs 24 4) xs.length
def Parsed (w:World) (h:Hdr × Int) (e:Ending) (w':World):Prop:=e=.returned (.tuple #[.agg #[.int .u64 h.1.i,.int .u64 h.1.r,.int .i64 h.1.n,.int .i64 h.1.x,.int .i64 h.1.f,.int .u32 h.1.m],.int .i64 h.2])∧Below w.heap.size w w'
structure Three (w0 w:World) (g:Nat) (i r n x f m:Int):Prop where
 bel:Below w0.heap.size w0 w
 res:HdrIn w g 0 0 0 0 0 0 0
 hdr:HdrIn w (g+2) 0 i r n x f m
 g0:g=w0.heap.size
theorem HdrIn.drew {w:World} {g o:Nat} {i r n x f m:Int} (h:HdrIn w g o i r n x f m):HdrIn w.drew g o i r n x f m:=h.below ((Below.refl _ _).drew)
end Go.Proofs.YtgpigjoonhghhaaGreat

namespace Go.Proofs.YtgpigjoonhghhaaGreat
open Go.RowKit
set_option linter.unusedVariables false
def replyN (e:Int):Int :=
 if e=3 then 5 else if e=6 then 1 else if e=20 then 4 else if e=16 then 14 else if e=13 then 17 else if e=17 then 38 else if e=18∨e=19 then 24 else if e=25 then 35 else if e=21 then 43
 else if e=1∨e=2∨e=4∨e=5∨e=7∨e=8∨e=9∨e=10∨e=11∨e=15 then 7 else 0
def Rpl (e:Int):Prop:=e=3∨e=6∨e=20∨e=16∨e=13∨e=17∨e=18∨e=19∨e=25∨e=21∨e=1∨e=2∨e=4∨e=5∨e=7∨e=8∨e=9∨e=10∨e=11∨e=15
instance (e:Int):Decidable (Rpl e):=by unfold Rpl;infer_instance
end Go.Proofs.YtgpigjoonhghhaaGreat

namespace Go.Proofs.YtgpigjoonhghhaaGreat
open Go.RowKit
set_option linter.unusedVariables false
def hdrL (i r n x f m len:Int):List Int:=be 8 i++(be 8 r++([n % 256,32,x % 256,f % 256]++(be 4 m++be 4 len)))
def buildR (i r n x f m len:Int):List Int × Int :=
 if checkR i r n x f m≠0 then ([],checkR i r n x f m) else if len<28∨8192<len then ([],5) else (hdrL i r n x f m len,0)
def Next1 (w:World) (n:Nat) (xs:List Int) (e:Ending) (w':World):Prop:=∃ p c,e=.returned (.slice p n c)∧Byt w' p n c xs∧Own w' w.heap.size 5 (.slice p n c) xs∧Below w.heap.size w w'
theorem Byt.made (w:World) (xs:List Int) (T:TypeId) (hr : ∀ x∈xs,0≤x∧x≤255) (hl:xs.length≤1000):Byt (w.alloc (.cells (xs.map (Value.int .u8)).toArray T)) (some ⟨w.heap.size,0,none⟩) xs.length xs.length xs:=by
 refine ⟨rfl,Nat.le_refl _,by unfold maxLen;omega,hr,fun hp=>⟨_,_,rfl,fun i hi=>?_⟩⟩
 rw [World.cell?_alloc_at _ _ _ _ rfl]
 simp [List.getD_eq_getElem?_getD,List.getElem?_eq_getElem hi]
def Built (w:World) (xs:List Int) (E:Int) (e:Ending) (w':World):Prop:=∃ p n c,e=.returned (.tuple #[.slice p n c,.int .i64 E])∧Byt w' p n c xs∧Own w' w.heap.size 5 (.slice p n c) xs∧Below w.heap.size w w'
end Go.Proofs.YtgpigjoonhghhaaGreat

namespace Go.Proofs.YtgpigjoonhghhaaGreat
open Go.RowKit
set_option linter.unusedVariables false
def msg (i r n z x g m len:Int) (zs:List Int):List Int:=be 8 i++(be 8 r++([n,z,x,g]++(be 4 m++(be 4 len++zs))))
theorem hdr_msg (i r n x f m len:Int) (zs:List Int):hdrL i r n x f m len++zs=msg i r (n % 256) 32 (x % 256) (f % 256) m len zs:=by
 simp [hdrL,msg]
theorem Good.check {i r n x f m:Int} (h:Good i r n x f m):checkR i r n x f m=0:=by
 have hn:=h.gn
 subst hn
 have hf:(bits BinOp.andNot IntKind.i64 f 56 == 0)=true:=by rcases h.gf with rfl | rfl | rfl | rfl<;>decide
 have hr:rangeR 0 x f=true:=by
  rw [rangeR,hf]
  simp
  exact h.gx
 have h1:=h.gi
 have h2:=h.later
 have h3:=h.first
 rw [checkR,if_neg (by omega),if_neg (by rw [hr];simp),if_neg (by omega),if_neg (by omega)]
theorem Good.bytes {i r n x f m:Int} (h:Good i r n x f m) (len:Int) (zs:List Int):hdrL i r n x f m len++zs=msg i r n 32 x f m len zs:=by
 have h1:=h.gn
 have h2:=h.gx
 have h3:=h.gf
 rw [hdr_msg,show n % 256=n by omega,show x % 256=x by omega,show f % 256=f by omega]
end Go.Proofs.YtgpigjoonhghhaaGreat

namespace Go.Proofs.YtgpigjoonhghhaaGreat
open Go.RowKit Go.ChangeShapes Go.WideShapes
set_option linter.unusedVariables false
structure Its (w:World) (p:Option Addr) (n c:Nat) (xs:List Int):Prop where
 len:xs.length=n
 cap:n≤c
 big:c≤maxLen
 rng : ∀ x∈xs,-9223372036854775808≤x∧x≤9223372036854775807
 mem:0<n→∃ b o,p=some ⟨b,o,none⟩∧∀ i,i<n→w.cell? ⟨b,o+i,none⟩=some (.int .i64 (xs.getD i 0))
theorem Its.keep {w w':World} {p:Option Addr} {n c:Nat} {xs:List Int} (h:Its w p n c xs) (hk : ∀ a v,w.cell? a=some v→w'.cell? a=some v):Its w' p n c xs :=
 ⟨h.len,h.cap,h.big,h.rng,fun h0=>by
  obtain ⟨b,o,e,hc⟩:=h.mem h0
  exact ⟨b,o,e,fun i hi=>hk _ _ (hc i hi)⟩⟩
theorem Its.below {w w':World} {p:Option Addr} {n c:Nat} {xs:List Int} (h:Its w p n c xs) (hb:Below w.heap.size w w'):Its w' p n c xs:=h.keep (cell_below hb)
theorem Its.at_ {w:World} {p:Option Addr} {n c:Nat} {xs:List Int} (h:Its w p n c xs) (j:Nat) (hj:j<n) : ∃ b o,p=some ⟨b,o,none⟩∧w.cell? ⟨b,o+j,none⟩=some (.int .i64 (xs.getD j 0)):=by
 obtain ⟨b,o,e,hc⟩:=h.mem (by omega)
 exact ⟨b,o,e,hc j hj⟩
theorem Its.nil (w:World):Its w none 0 0 []:=⟨rfl,Nat.le_refl _,Nat.zero_le _,(fun x hx=>by simp at hx),(fun h=>by omega)⟩
def KIn:KindR Int where
 e:=3
 k:=1
 cs x:=[.int .i64 x]
 len _:=rfl
 one x u hu:=by
  simp at hu
  subst hu
  rfl
 pos:=by decide
def NIn:NestR Int where
 ts:=[]
 ok _ _ x:=-9223372036854775808≤x∧x≤9223372036854775807
 keep h _ _:=h
 mono h _:=h
theorem Tryz.infoInt:(Tryz.prog.info? 3).map (fun i=>(i.zero,i.size,i.bytes))=some (some (.int .i64 0),1,8):=by kernel_rfl
theorem knownIn:KnownR Tryz.prog KIn 68 8:=by
 refine ⟨Tryz.underlying68,?_⟩
 obtain ⟨i0,hi,hz0,hz1,hz2⟩:=info_parts Tryz.infoInt
 exact ⟨i0,_,hi,hz0,hz1,hz2,rfl⟩
theorem row_in (l:List Int) (j:Nat) (hj:j<l.length):(KIn.row l)[j]?=some (.int .i64 (l.getD j 0)):=by
 have:=KIn.row_get l j hj 0 (.int .i64 l[j]) rfl
 simp only [KIn,Nat.mul_one,Nat.add_zero] at this
 rw [List.getD_eq_getElem?_getD,List.getElem?_eq_getElem hj]
 exact this
theorem RowG.its {w:World} {base:Nat} {v:Value} {l:List Int} (h:RowG KIn NIn w base v l) {n:Nat} (hn:l.length=n) : ∃ p c,v=.slice p n c∧Its w p n c l:=by
 subst hn
 rcases Nat.eq_zero_or_pos l.length with h0 | h0
 ·rcases h.own.2 with ⟨rfl,hz⟩ | ⟨g,cap,cur,rfl,hg,hh,hnc,hm,hs,ht⟩
  ·exact ⟨none,0,by rw [h0],rfl,by omega,by unfold maxLen;omega,h.ok,fun h=>by omega⟩
  ·exact ⟨_,_,rfl,rfl,hnc,hm,h.ok,fun h=>by omega⟩
 ·obtain ⟨g,c,e,hnc,hm,_,_,hc,_⟩:=h.at_ rfl h0
  exact ⟨_,_,e,rfl,hnc,hm,h.ok,fun _=>⟨g,0,rfl,fun i hi=>by rw [Nat.zero_add];exact hc i _ (row_in l i hi)⟩⟩
structure Bl where
 p:Option Addr
 n:Nat
 c:Nat
 xs:List Int
def KBl:KindR Bl where
 e:=22
 k:=1
 cs x:=[.slice x.p x.n x.c]
 len _:=rfl
 one x u hu:=by
  simp at hu
  subst hu
  rfl
 pos:=by decide
def NBl:NestR Bl where
 ts:=[5]
 ok w base x:=Bod w base x.p x.n x.c x.xs
 keep h hg ho:=h.grown hg (fun r hr=>(ho r hr).imp id (fun h2 cur fz e=>h2 cur _ fz e (by simp)))
 mono h hb:=h.mono hb
def DBl:ReadN Bl where
 ok w x:=Byt w x.p x.n x.c x.xs
 keep h hk:=h.keep hk
theorem srcIn (w:World) (x:Int) (T:TypeId):SrcG KIn (w.alloc (.cells #[.int .i64 x] T)) (some ⟨w.heap.size,0,none⟩) 1 [x]:=SrcG.new KIn w [x] T
theorem RdG.bl {w:World} {p:Option Addr} {n c:Nat} {l:List Bl} (h:RdG KBl DBl w p n c l) (j:Nat) (hj:j<l.length) : ∃ g,p=some ⟨g,0,none⟩∧w.cell? ⟨g,j,none⟩=some (.slice l[j].p l[j].n l[j].c)∧Byt w l[j].p l[j].n l[j].c l[j].xs:=by
 obtain ⟨g,e,hc,ho⟩:=h.cell j hj
 have:=hc 0 _ rfl
 simp only [KBl,Nat.mul_one,Nat.add_zero] at this
 exact ⟨g,e,this,ho⟩
end Go.Proofs.YtgpigjoonhghhaaGreat

namespace Go.Proofs.YtgpigjoonhghhaaGreat
open Go.RowKit
set_option linter.unusedVariables false
section
variable {α:Type} {P:Program} {K:KindR α} {N:NestR α} {t:TypeId} {bytes:Nat}
theorem run_append_w (hk:KnownR P K t bytes) (he:K.e ∉ N.ts) (w:World) (base:Nat) (ty:TypeId) (v:Value) (l:List α) (h:RowG K N w base v l) (p:Option Addr) (m c:Nat) (r:List α) (hm:0<m) (hs:SrcG K w p m r) (hr : ∀ x∈r,N.ok w base x)
  (h63:l.length+m≤maxLen) (hbytes:(l.length+m)*bytes≤140737488355328) (hbase:base≤w.heap.size) :
  ∃ v' w',(Builtin.append_ #[t,t] ty #[v,.slice p m c]).run P w=.ok v' w'∧RowG K N w' base v' (l++r)∧w.grownBy w' v.ownBlock∧(∀ q,v'.ownBlock=some q→v.ownBlock=some q∨w.heap.size≤q):=by
 obtain ⟨v',w',hrun,h2,h3⟩:=run_append_g hk he w base ty v l h p m c r hs hr h63 hbytes hbase
 refine ⟨v',w',hrun,h2,h3,?_⟩
 obtain ⟨i0,z,hi,hz0,hz1,hz2,hz3⟩:=hk.info
 obtain ⟨a,rfl,hc⟩:=hs.2 hm
 have hrl:(K.row r).length=m*K.k:=by rw [K.row_len,hs.1]
 rcases h.own.2 with ⟨rfl,hx⟩ | ⟨g,cap,cur,rfl,hb,hh,hnc,hcm,hcs,ht⟩
 ·have hl0:l=[]:=List.eq_nil_of_length_eq_zero hx
  subst hl0
  obtain ⟨v2,w2,hrun2,r1,-,-⟩:=run_append_own (P:=P) w w.heap.size t ty K.e i0 z K.k bytes hk.under hi hz0 hz1 hz2 hz3 K.pos (.slice none 0 0) 0 [] (World.ownsRow_nil w w.heap.size K.e K.k) a m c (K.row r) hrl hc (K.row_one r) (by simpa using h63) (by simpa using hbytes) (Nat.le_refl _)
  rw [hrun] at hrun2
  injection hrun2 with e1 e2
  subst e1 e2
  exact fun q hq=>.inr (World.ownsRow.lt r1 q hq).1
 ·by_cases hroom:l.length+m≤cap
  ·have hex : ∀ j,j<(K.row r).length→(w.cell? ⟨g,0+l.length*i0.size+j,none⟩).isSome=true:=fun j hj=>by
    rw [cell_of_row w g _ _ _ _ hh,hz1,Nat.zero_add]
    have:l.length*K.k+j<cur.size:=by
     rw [hcs]
     have h1:l.length*K.k+(K.row r).length≤cap*K.k:=by rw [hrl,←Nat.add_mul];exact Nat.mul_le_mul_right _ hroom
     omega
    simp [this]
   have hfz : ∀ j,j<(K.row r).length→w.frozen? ⟨g,0+l.length*i0.size+j,none⟩=false:=fun j hj=>frozen_of_row _ _ _ _ _ hh
   have hrun2:=run_append_room_cells (P:=P) w t ty K.e i0 hk.under hi g 0 l.length cap a m c (K.row r) (by rw [hz1];exact hrl) hc (K.row_one r) hroom hex hfz
   rw [hrun] at hrun2
   injection hrun2 with e1 e2
   subst e1
   exact fun q hq=>.inl hq
  ·obtain ⟨v2,w2,hrun2,r1,-⟩:=run_append_arg_grows (P:=P) w t ty K.e i0 z K.k bytes hk.under hi hz0 hz1 hz2 hz3 K.pos ⟨g,0,none⟩ l.length cap (K.row l) (K.row_len l) (World.ownsRow.cells h.own (g:=g) rfl) a m c (K.row r) hrl hc (by omega) h63 hbytes
   rw [hrun] at hrun2
   injection hrun2 with e1 e2
   subst e1 e2
   exact fun q hq=>.inr (World.ownsRow.lt r1 q hq).1
theorem step_append_w (hk:KnownR P K t bytes) (he:K.e ∉ N.ts) (w:World) {ops:Array Oper} {o:Oper} {a:Act} {C:Act→World→Prop} {Q:Exit→Act→World→Prop} {E:Prop} (hw:Region.wanted o (yielded ops a.tmps)=true) (s x:Operand)
  (ho:o.op=.call { callee:=.builtin .append,args:=#[s,x],argTypes:=#[t,t] })
  (base:Nat) (v:Value) (l:List α) (hs:a.eval s=v) (hv:RowG K N w base v l)
  (p:Option Addr) (m c:Nat) (r:List α) (hx:a.eval x=.slice p m c) (hm:0<m) (hsrc:SrcG K w p m r) (hr : ∀ x∈r,N.ok w base x) (h63:l.length+m≤maxLen) (hbytes:(l.length+m)*bytes≤140737488355328) (hbase:base≤w.heap.size)
  (h : ∀ v' w',Hid (RowG K N w' base v' (l++r))→Hid (w.grownBy w' v.ownBlock)→Hid (∀ q,v'.ownBlock=some q→v.ownBlock=some q∨w.heap.size≤q)→C (a.put o.dst v') w'):if Region.wanted o (yielded ops a.tmps)=true then Oper.wp P o a w C Q else E:=by
 rw [if_pos hw]
 obtain ⟨v',w',hrun,h2,h3,h4⟩:=run_append_w hk he w base o.type v l hv p m c r hm hsrc hr h63 hbytes hbase
 unfold Oper.wp execOp
 simp only [ho,resolve,invoke,builtin,Sem.run_bind,Sem.run_pure,Result.andThen_ok,List.map_toArray,List.map_cons,List.map_nil,hs,hx,hrun]
 exact h v' w' h2 h3 h4
end
end Go.Proofs.YtgpigjoonhghhaaGreat

namespace Go.Proofs.YtgpigjoonhghhaaGreat
open Go.RowKit
set_option linter.unusedVariables false
def BytesOkR (w:World) (r:List Int × Bool) (e:Ending) (w':World):Prop:=∃ p n c,e=.returned (.tuple #[.slice p n c,.bool r.2])∧Byt w' p n c r.1∧Below w.heap.size w w'
def BodOkR (w:World) (r:List Int × Bool) (e:Ending) (w':World):Prop:=∃ p n c,e=.returned (.tuple #[.slice p n c,.bool r.2])∧Bod w' w.heap.size p n c r.1∧Below w.heap.size w w'
end Go.Proofs.YtgpigjoonhghhaaGreat

namespace Go.Proofs.YtgpigjoonhghhaaGreat
open Go.RowKit
set_option linter.unusedVariables false
def ParsedC (w:World) (r:ResC) (e:Ending) (w':World):Prop:=∃ v l,e=.returned (.tuple #[v,.int .i64 r.n,.int .i64 r.e])∧Rws w' w.heap.size v l∧l.map RawP.raw=r.l∧l.length≤40∧Below w.heap.size w w'
theorem parsedC_fail (w w':World) (E:Int) (r:ResC) (hr:failC E=r) (hb:Below w.heap.size w w'):ParsedC w r (.returned (.tuple #[.slice none 0 0,.int .i64 0,.int .i64 E])) w':=by
 subst hr
 exact ⟨_,[],rfl,Rws.nil _ _,rfl,by simp,hb⟩
theorem preC_form (out:List Raw) (r:ResC) (h:(preC out r).e≠0):preC out r=failC (preC out r).e:=by
 unfold preC at h ⊢
 split
 ·rfl
 ·rename_i h1
  rw [if_neg h1] at h
  exact absurd rfl h
theorem parse_form (left:Nat) (kind:Int) (xs:List Int) (h:(parseC left kind xs).e≠0):parseC left kind xs=failC (parseC left kind xs).e:=by
 by_cases hk:kind=0
 ·subst hk
  rw [parseC_end] at h ⊢
  split
  ·rfl
  ·rename_i h1
   rw [if_neg h1] at h
   exact absurd rfl h
 cases left with
 | zero=>rw [parseC_many _ _ hk];rfl
 | succ left =>
  rw [parseC_more _ _ _ hk] at h ⊢
  by_cases h1:xs.length<4
  ·rw [if_pos h1];rfl
  rw [if_neg h1] at h ⊢
  by_cases h2:lenC xs<4∨(xs.length:Int)<lenC xs
  ·rw [if_pos h2];rfl
  rw [if_neg h2] at h ⊢
  by_cases h3:lastK kind=true
  ·rw [if_pos h3] at h ⊢
   split
   ·rfl
   ·rename_i h4
    rw [if_neg h4] at h
    exact absurd rfl h
  ·rw [if_neg h3] at h ⊢
   exact preC_form _ _ h
structure StP (w wr:World) (xs:List Int) (n:Nat) (r:ResC) (o:Value) (k a:Int):Prop where
 ex : ∃ (at_:Nat) (l:List RawP),a=(at_:Int)∧at_≤n∧0≤k∧k≤255∧l.length≤40∧preC (l.map RawP.raw) (parseC (40 - l.length) k (xs.drop at_))=r∧Rws wr w.heap.size o l
 bel:Below w.heap.size w wr
end Go.Proofs.YtgpigjoonhghhaaGreat

namespace Go.Proofs.YtgpigjoonhghhaaGreat
open Go.RowKit Go.Shelf
set_option linter.unusedVariables false
def SeqSt {α:Type} (F:Fence) (n:Nat) (P:Program) (gf:Nat) (bnd:Array Value) (encs:α→Array Value) (R B N:Nat) (S:α→World→Prop) (T:List α→World→Prop) (w:World):Prop :=
 ∀ (l:Nat) (J:List α→World→Prop) (W:World),Below w.heap.size w W→(∀ pre U U',J pre U→U.grownBy U' (some R)→J pre U') →
  (∀ pre x U,J pre U→S x U→pre.length<N→YieldAt F (n - 1) P l (encs x) U fun e U'=>e=.returned (.bool true)∧J (pre++[x]) U'∧Below B U U')→J [] W →
  CallsIn F n P gf (bnd++#[.func (.yield l) #[] #[]]) W fun e W'=>(∃ v,e=.returned v)∧∃ xs,T xs W'∧J xs W'
def AbidesR {α:Type} (R Bd:Nat) (I:α→World→Prop):Prop :=
 ∀ s U U' row,I s U→U.grownBy U' row→(∀ r,row=some r→r=R∨Bd≤r∧∃ o:Obj,U.heap[r]?=some o∧o.isCells=false)→I s U'
def AbidesN {α:Type} (Bd:Nat) (I:α→World→Prop):Prop :=
 ∀ s U U' row,I s U→U.grownBy U' row→(∀ r,row=some r→Bd≤r∧∃ o:Obj,U.heap[r]?=some o∧o.isCells=false)→I s U'
theorem AbidesR.n {α:Type} {R Bd:Nat} {I:α→World→Prop} (h:AbidesR R Bd I):AbidesN Bd I:=fun s U U' row hs hg hr=>h s U U' row hs hg (fun r e=>Or.inr (hr r e))
theorem AbidesN.alloc {α:Type} {Bd:Nat} {I:α→World→Prop} (h:AbidesN Bd I) {s:α} {U:World} (o:Obj) (hs:I s U):I s (U.alloc o):=h s U _ none hs (World.grownBy_alloc U o none) (fun r e=>by cases e)
theorem AbidesN.put {α:Type} {Bd:Nat} {I:α→World→Prop} (h:AbidesN Bd I) {s:α} {U:World} {l:Nat} {o:Obj} (o':Obj) (hs:I s U) (hB:Bd≤l) (hl:U.heap[l]?=some o) (ho:o.isCells=false):I s (U.putObj l o') :=
 h s U _ (some l) hs (grownBy_putObj' U l o') (fun r e=>by cases e;exact ⟨hB,o,hl,ho⟩)
def roundSt {α:Type} (I:List α→World→Prop) (B:Nat) (xs:List α) (W:World):Exit→Act→World→Prop
 | .normal,_,W'=>KeepsOthers W W'∧Below B W W'∧I xs W'
 | _,_,_=>False
variable {F:Fence} {n:Nat} {P:Program}
theorem below_put {B:Nat} (W:World) (l:Nat) (o:Obj) (h:B≤l) (hB:B≤W.heap.size):Below B W (W.putObj l o) :=
 (Below.refl B W).grown (grownBy_putObj' W l o) hB (fun k e=>by cases e;exact h)
set_option maxHeartbeats 800000 in
theorem wpIn_rangeFunc_state {α:Type} {g:Operand} {ps:Array Tmp} {assign body:Code} {Q:Exit→Act→World→Prop} {a:Act} {w:World}
  (hro:F.round=none) (h1:1≤n) {gf:Nat} {bnd:Array Value} (hg:a.eval g=.func (.func gf) bnd #[]) (hF:F.fn gf) (eg : ∀ args w,(callFunc gf args).run P w=.ok (.enter gf args) w)
  {encs:α→Array Value} (hps : ∀ x,(encs x).size=ps.size) {R B N:Nat} {S:α→World→Prop} {T:List α→World→Prop} (hseq:SeqSt F (n - 1) P gf bnd encs R B N S T w)
  (hR:R<w.heap.size) (hB:B≤w.heap.size) (hS:AbidesN w.heap.size S) (hT:AbidesN w.heap.size T) (I:List α→World→Prop) (hI:AbidesR R w.heap.size I) (h0:I [] w) (aa:α→World→Act) (obj:α→Obj)
  (hassign : ∀ (l:Nat) (x:α) (U:World) (K:Act→World→Prop),K (aa x U) (U.alloc (obj x)) →
   assign.wpIn (F.inRound l) (n - 1 - 1) P (Exit.then K (fun _ _ _=>False)) { tmps:=(ps.zip (encs x)).foldl (fun t (p,v)=>t.setIfInBounds p v) a.tmps,defers:=[] } U)
  (hbody : ∀ (l:Nat) (pre:List α) (x:α) (U U2:World),I pre U2→S x U2→pre.length<N→U2.heap[U.heap.size]?=some (obj x)→w.heap.size≤U.heap.size→body.wpIn (F.inRound l) (n - 1 - 1) P (roundSt I B (pre++[x]) U2) (aa x U) U2)
  (hdone : ∀ (D:Nat) (xs:List α) (W:World),w.heap.size≤D→T xs W→I xs W→W.heap[D]?=some (.deferred (some []))→Q .normal { a with defers:={ target:=.collected D,args:=#[] } :: a.defers } W) :
  (Code.rangeFunc g ps assign body).wpIn F n P Q a w:=by
 refine wpIn_rangeFunc ?_
 intro fn hfn
 rw [hro]
 obtain ⟨rec,hrec⟩ : ∃ rec:LoopState→Loop,rec=fun st=>{ state:=st,pending:=none,fn,tmps:=a.tmps,params:=ps,assign,body,defers:=w.heap.size }:=⟨_,rfl⟩
 obtain ⟨W1,hW1⟩ : ∃ W1,(w.alloc (.deferred (some []))).alloc (.loop (rec .ready))=W1:=⟨_,rfl⟩
 have e1:(w.alloc (.deferred (some []))).heap.size=w.heap.size+1:=World.size_alloc _ _
 have hL1:W1.heap[w.heap.size+1]?=some (.loop (rec .ready)):=by
  rw [←hW1,←e1]
  exact World.alloc_heap_new _ _
 have hK1:W1.heap[w.heap.size]?=some (.deferred (some [])):=by
  rw [←hW1]
  exact (Below.heap_alloc _ _ _ (by simp)).trans (World.alloc_heap_new w _)
 have hI1:I [] W1:=by
  rw [←hW1]
  exact hI.n.alloc _ (hI.n.alloc _ h0)
 have hb1:Below w.heap.size w W1:=by
  rw [←hW1]
  exact ((Below.refl _ w).alloc (Nat.le_refl _) _).alloc (by simp) _
 refine ⟨w.heap.size+1,[{ target:=.collected w.heap.size,args:=#[] }],W1,{ target:=.fn (.func gf) #[],args:=bnd++#[.func (.yield (w.heap.size+1)) #[] #[]] },W1,gf,
  bnd++#[.func (.yield (w.heap.size+1)) #[] #[]],W1,?_,?_,?_,?_,fun _=>h1,?_⟩
 ·rw [←hW1,hrec]
  exact run_enterLoop_outer _ _ _ _ _
 ·simp only [resolve,hg]
  simp [go_sem]
 ·intro f' hf'
  simp [Target.leads] at hf'
  subst hf'
  exact hF
 ·simp [invoke,go_sem,eg]
 ·refine (hseq (w.heap.size+1) (fun pre U=>I pre U∧U.heap[w.heap.size+1]?=some (.loop (rec .ready))∧U.heap[w.heap.size]?=some (.deferred (some []))) W1 hb1 ?_ ?_ ⟨hI1,hL1,hK1⟩).mono ?_
  ·rintro pre U U' ⟨hi,hl,hk⟩ hgr
   have hlt:=(Array.getElem?_eq_some_iff.1 hl).1
   exact ⟨hI pre U U' _ hi hgr (fun r e=>by cases e;exact Or.inl rfl),(hgr.block _ hlt (by simp;omega)).trans hl,(hgr.block _ (by omega) (by simp;omega)).trans hk⟩
  ·rintro pre x U ⟨hi,hl,hk⟩ hs hN
   have hlt:=(Array.getElem?_eq_some_iff.1 hl).1
   have hy:=run_yield (P:=P) (args:=encs x) hl (by rw [hrec];exact hps x)
   rw [hrec] at hy
   have hl':(U.alloc (obj x)).heap[w.heap.size+1]?=some (.loop (rec .ready)):=(Below.heap_alloc _ _ _ hlt).trans hl
   have hk':(U.alloc (obj x)).heap[w.heap.size]?=some (.deferred (some [])):=(Below.heap_alloc _ _ _ (by omega)).trans hk
   refine ⟨fn,_,assign,body,hy,roundIn_of_wpIn hfn (hassign _ x U _ ⟨_,run_beginRound hl' (by rw [hrec]),?_⟩)⟩
   obtain ⟨U2,hU2⟩ : ∃ U2,(U.alloc (obj x)).putObj (w.heap.size+1) (.loop { rec .ready with state:=.busy })=U2:=⟨_,rfl⟩
   have hsz:(U.alloc (obj x)).heap.size=U.heap.size+1:=World.size_alloc _ _
   have hl2:U2.heap[w.heap.size+1]?=some (.loop (rec .busy)):=by
    rw [←hU2,World.putObj_heap_same (by omega),hrec]
   have hk2:U2.heap[w.heap.size]?=some (.deferred (some [])):=by
    rw [←hU2]
    exact (World.putObj_heap_other (by omega)).trans hk'
   have ho2:U2.heap[U.heap.size]?=some (obj x):=by
    rw [←hU2]
    exact (World.putObj_heap_other (by omega)).trans (World.alloc_heap_new U (obj x))
   have hi2:I pre U2:=by
    rw [←hU2]
    exact hI.n.put _ (hI.n.alloc _ hi) (by omega) hl' rfl
   have hs2:S x U2:=by
    rw [←hU2]
    exact hS.put _ (hS.alloc _ hs) (by omega) hl' rfl
   have hb2:Below B U U2:=by
    rw [←hU2]
    exact ((Below.refl B U).alloc (by omega) _).trans (below_put _ _ _ (by omega) (by omega))
   rw [hU2]
   refine wpIn_mono (hbody _ pre x U U2 hi2 hs2 hN ho2 (by omega)) ?_
   rintro e a3 W3 hp
   cases e with
   | normal =>
    obtain ⟨hk3,hb3,hi3⟩:=hp
    have hl3:=hk3.same _ _ hl2 rfl
    have hr:=run_endRound (P:=P) none hl3
    have hlt3:=(Array.getElem?_eq_some_iff.1 hl3).1
    refine ⟨_,_,hr,rfl,⟨hI.n.put _ hi3 (by omega) hl3 rfl,?_,?_⟩,hb2.trans (hb3.trans (below_put _ _ _ (by omega) (by omega)))⟩
    ·rw [World.putObj_heap_same hlt3,hrec]
     rfl
    ·exact (World.putObj_heap_other (by omega)).trans (hk3.same _ _ hk2 rfl)
   | ret=>exact hp.elim
   | exit id=>exact hp.elim
   | goto t=>exact hp.elim
   | panic ch=>exact hp.elim
   | outgrown=>exact hp.elim
  ·rintro e W2 ⟨⟨v,rfl⟩,xs,ht,hi,hl,hk⟩
   have:=run_endLoop (P:=P) hl (by rw [hrec];simp)
   rw [hrec] at this hl
   exact ⟨none,_,this,hdone _ xs _ (Nat.le_refl _) (hT.put _ ht (by omega) hl rfl) (hI.n.put _ hi (by omega) hl rfl) ((World.putObj_heap_other (by omega)).trans hk)⟩
end Go.Proofs.YtgpigjoonhghhaaGreat
