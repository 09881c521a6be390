/-
 The document's own small functions on payloads: kinds of identities, lengths of SPIs, the first errors of identities and authentications.
 Package payload's writers of key exchanges and notifications.
 Package payload's writer of deletions.
 Package payload's Build, given what build returns.
 What the document's own package reads of an address.
 Whether the types that were found are all that the exchange needs (message.complete).
 Codes.Payload, a type at a time.
-/
import Derived.Test.YtgpigjoonhghhaaGreatQZ6
import Derived.Test.YtgpigjoonhghhaaGreatQZ2
import Derived.Test.YtgpigjoonhghhaaGreatQZ1
import Derived.Test.YtgpigjoonhghhaaGreatQZ15
import Derived.Test.YtgpigjoonhghhaaGreatQZ10
import Derived.Test.YtgpigjoonhghhaaGreatQZ19
import Derived.Test.YtgpigjoonhghhaaGreatQZ18
import Derived.Deep.Cut
import Derived.Deep.CutRange
import Derived.Deep.RegionHeld3
import Derived.Deep.RegionLaw
import Derived.Deep.CutBlock
namespace Go.Proofs.YtgpigjoonhghhaaGreat
open Go.RowKit
set_option linter.unusedVariables false
def kindB (k:Int):Bool:=k == 1 || k == 2 || k == 3 || k == 5 || k == 11
set_option maxHeartbeats 800000 in
set_option maxRecDepth 100000 in
theorem rkind_any (k:Int) (w:World):Calls Tryz.prog 64 #[.int .i64 k] w fun e w'=>e=.returned (.bool (kindB k))∧Below w.heap.size w w':=by
 unfold kindB
 by_cases h1:k=1
 ·subst h1
  go_enter Tryz.func64,Tryz.ntmps64
  go_wp2
  go_ret
  exact ⟨rfl,Below.refl _ _⟩
 have e1:(k == 1)=false:=by simpa using h1
 by_cases h2:k=2
 ·subst h2
  go_enter Tryz.func64,Tryz.ntmps64
  go_wp2
  go_ret
  exact ⟨rfl,Below.refl _ _⟩
 have e2:(k == 2)=false:=by simpa using h2
 by_cases h3:k=3
 ·subst h3
  go_enter Tryz.func64,Tryz.ntmps64
  go_wp2
  go_ret
  exact ⟨rfl,Below.refl _ _⟩
 have e3:(k == 3)=false:=by simpa using h3
 by_cases h5:k=5
 ·subst h5
  go_enter Tryz.func64,Tryz.ntmps64
  go_wp2
  go_ret
  exact ⟨rfl,Below.refl _ _⟩
 have e5:(k == 5)=false:=by simpa using h5
 rw [e1,e2,e3,e5]
 clear h1 h2 h3 h5
 by_cases h11:k=11
 ·subst h11
  go_enter Tryz.func64,Tryz.ntmps64
  go_wp2
  go_ret
  exact ⟨rfl,Below.refl _ _⟩
 have e11:(k == 11)=false:=by simpa using h11
 rw [e11]
 clear h11
 go_enter Tryz.func64,Tryz.ntmps64
 go_wp2
 go_ret
 exact ⟨rfl,Below.refl _ _⟩
def widthN (k:Int):Int:=if k=0∨k=1 then 0 else 4
theorem width_spi (k:Int) (h0:0≤k) (h3:k≤3):widthN k=(spiZ k:Int):=by
 have:k=0∨k=1∨k=2∨k=3:=by omega
 rcases this with rfl | rfl | rfl | rfl<;>rfl
set_option maxHeartbeats 800000 in
set_option maxRecDepth 100000 in
theorem rwidth_any (k:Int) (w:World):Calls Tryz.prog 38 #[.int .i64 k] w fun e w'=>e=.returned (.int .i64 (widthN k))∧Below w.heap.size w w':=by
 unfold widthN
 by_cases h0:k=0
 ·subst h0
  go_enter Tryz.func38,Tryz.ntmps38
  go_wp2
  go_ret
  exact ⟨rfl,Below.refl _ _⟩
 by_cases h1:k=1
 ·subst h1
  go_enter Tryz.func38,Tryz.ntmps38
  go_wp2
  go_ret
  exact ⟨rfl,Below.refl _ _⟩
 have e0:(k == 0)=false:=by simpa using h0
 have e1:(k == 1)=false:=by simpa using h1
 rw [if_neg (by omega)]
 clear h0 h1
 go_enter Tryz.func38,Tryz.ntmps38
 go_wp2
 go_ret
 exact ⟨rfl,Below.refl _ _⟩
set_option maxHeartbeats 1600000 in
set_option maxRecDepth 100000 in
theorem rauth_any (m:Int) (p:Option Addr) (n c:Nat) (w:World) (hn:n≤9223372036854775807) (E:Int) (hE:authE m n=E) :
  Calls Tryz.prog 44 #[.agg #[.int .i64 m,.slice p n c]] w fun e w'=>e=.returned (.int .i64 E)∧Below w.heap.size w w':=by
 have HB:=hidden ((Below.refl w.heap.size w).alloc (Nat.le_refl _) (.cells #[.int .i64 m,.slice p n c] 41))
 have HB2:=hidden ((Below.refl w.heap.size (w.alloc (.cells #[.int .i64 m,.slice p n c] 41))).drew)
 unfold authE at hE
 by_cases h1:m=2
 ·subst h1
  rw [if_neg (by decide)] at hE
  by_cases h0:n=0
  ·subst h0
   rw [if_pos rfl] at hE
   subst hE
   go_enter Tryz.func44,Tryz.ntmps44
   go_wp2
   go_ret
   exact ⟨rfl,HB.out⟩
  ·rw [if_neg h0] at hE
   subst hE
   have hz:((n:Int) == 0)=false:=by simp;omega
   go_enter Tryz.func44,Tryz.ntmps44
   go_wp2
   go_ret
   exact ⟨rfl,HB.out⟩
 have e1:(m != 2)=true:=by simpa using h1
 by_cases h2:m=14
 ·subst h2
  rw [if_neg (by decide)] at hE
  by_cases h0:n=0
  ·subst h0
   rw [if_pos rfl] at hE
   subst hE
   go_enter Tryz.func44,Tryz.ntmps44
   go_wp2
   go_ret
   exact ⟨rfl,HB.out⟩
  ·rw [if_neg h0] at hE
   subst hE
   have hz:((n:Int) == 0)=false:=by simp;omega
   go_enter Tryz.func44,Tryz.ntmps44
   go_wp2
   go_ret
   exact ⟨rfl,HB.out⟩
 have e2:(m != 14)=true:=by simpa using h2
 rw [if_pos ⟨h1,h2⟩] at hE
 subst hE
 clear h1 h2
 go_enter Tryz.func44,Tryz.ntmps44
 go_wp2
 go_ret
 exact ⟨rfl,HB.out⟩
set_option maxHeartbeats 3200000 in
set_option maxRecDepth 100000 in
theorem ridentity_any (k:Int) (p:Option Addr) (n c:Nat) (w:World) (hn:n≤9223372036854775807) (E:Int) (hE:idE k n=E) :
  Calls Tryz.prog 43 #[.agg #[.int .i64 k,.slice p n c]] w fun e w'=>e=.returned (.int .i64 E)∧Below w.heap.size w w':=by
 have HB:=hidden ((Below.refl w.heap.size w).alloc (Nat.le_refl _) (.cells #[.int .i64 k,.slice p n c] 39))
 have HK:=hidden (rkind_any k)
 have HCC:Hid (∀ W,Below (w.alloc (.cells #[.int .i64 k,.slice p n c] 39)).heap.size (w.alloc (.cells #[.int .i64 k,.slice p n c] 39)) W→W.cell? ⟨w.heap.size,0,none⟩=some (.int .i64 k)∧W.cell? ⟨w.heap.size,1,none⟩=some (.slice p n c)):=fun W hb=>⟨cell_below hb _ _ (by go_simp),cell_below hb _ _ (by go_simp)⟩
 unfold kindB at HK
 rcases idE_cases k n E hE with ⟨rfl,⟨h,rfl⟩ | ⟨h,rfl⟩⟩ | ⟨k1,rfl,⟨h,rfl⟩ | ⟨h,rfl⟩⟩ | ⟨k1,k2,k3,⟨h,rfl⟩ | ⟨h,rfl⟩⟩ | ⟨k1,k2,k3,k4,k5,rfl⟩
 all_goals clear hE
 all_goals (try rcases k3 with rfl | rfl | rfl)
 all_goals (try subst h)
 all_goals (try have hz0:((n:Int) == 0)=false:=(by simp;omega))
 all_goals (try have hz:((n:Int) != 4)=true:=(by simp;omega))
 all_goals (try have hz2:((n:Int) != 16)=true:=(by simp;omega))
 all_goals (try rw [k1,k4,k3,k2,k5] at HK)
 all_goals (try rw [k1,k3,k4,k2,k5] at HK)
 all_goals (try simp only [beq_self_eq_true,Bool.true_or,Bool.or_true,Bool.false_or] at HK)
 all_goals (try clear h)
 all_goals
  go_enter Tryz.func43,Tryz.ntmps43
  go_wp2_with (first
   | (go_at_call 64;(with_reducible refine (HK.out _).mono ?_);rintro e w2 ⟨rfl,hb⟩;have HB2:=hidden (HB.out.trans (hb.mono HB.out.size));obtain ⟨c0,c1⟩:=HCC.out w2 hb;clear hb)
   | fail)
  go_ret
  exact ⟨rfl,HB2.out⟩
end Go.Proofs.YtgpigjoonhghhaaGreat

namespace Go.Proofs.YtgpigjoonhghhaaGreat
open Go.RowKit
set_option linter.unusedVariables false
set_option linter.unusedSimpArgs false
def GotBE (w:World) (L:List Int) (E:Int) (e:Ending) (w':World):Prop:=∃ q d,e=.returned (.tuple #[.slice q L.length d,.int .i64 E])∧Frs w' w.heap.size q L.length d L∧Below w.heap.size w w'
def exchL (g:Int) (ed:List Int):List Int:=[g / 256 % 256,g % 256,0,0]++ed
def noteL (np nt:Int) (ns nd:List Int):List Int:=[np % 256,(ns.length:Int) % 256,nt / 256 % 256,nt % 256]++(ns++nd)
end Go.Proofs.YtgpigjoonhghhaaGreat

namespace Go.Proofs.YtgpigjoonhghhaaGreat
open Go.RowKit
set_option linter.unusedVariables false
set_option linter.unusedSimpArgs false
def sizeBad (z:Nat):List (List Int)→Nat
 | []=>z
 | x :: l=>if x.length=z then sizeBad z l else x.length
theorem sizeBad_drop (z:Nat) : ∀ (l:List (List Int)) (j:Nat),(∀ x∈l.take j,x.length=z)→sizeBad z (l.drop j)=sizeBad z l
 | l,0,_=>rfl
 | [],j+1,_=>rfl
 | x :: l,j+1,h=>by
  rw [List.drop_succ_cons,sizeBad_drop z l j (fun y hy=>h y (by simp [hy])),sizeBad,if_pos (h x (by simp))]
theorem sizeBad_all (z:Nat) : ∀ (l:List (List Int)),sizeBad z l=z→∀ x∈l,x.length=z
 | [],_=>fun x hx=>by cases hx
 | y :: l,h=>by
  unfold sizeBad at h
  split at h
  ·rename_i hy
   intro x hx
   rcases List.mem_cons.1 hx with rfl | hx
   ·exact hy
   ·exact sizeBad_all z l h x hx
  ·rename_i hy
   exact absurd h hy
def delL (k:Int) (l:List (List Int)):List Int:=[k % 256,(sizeBad (spiZ k) l:Int) % 256,(l.length:Int) / 256 % 256,(l.length:Int) % 256]++l.flatten
def delBE (k:Int) (l:List (List Int)):Int:=if deleteE k (sizeBad (spiZ k) l) l.length≠0 then deleteE k (sizeBad (spiZ k) l) l.length else spisX k l
def delBL (k:Int) (l:List (List Int)):List Int:=if deleteE k (sizeBad (spiZ k) l) l.length≠0 then [] else delL k l
theorem flatten_len (z:Nat) : ∀ (l:List (List Int)),(∀ x∈l,x.length=z)→l.flatten.length=l.length*z
 | [],_=>by simp
 | x :: l,h=>by
  have h1:=h x (by simp)
  have h2:=flatten_len z l (fun y hy=>h y (by simp [hy]))
  rw [List.flatten_cons,List.length_append,h1,h2,List.length_cons,Nat.add_mul]
  omega
theorem spiZ_le (k:Int):spiZ k≤4:=by unfold spiZ;split<;>omega
def sbPart (x:Sb):Part:=⟨x.p,x.n,x.c,x.xs⟩
end Go.Proofs.YtgpigjoonhghhaaGreat

namespace Go.Proofs.YtgpigjoonhghhaaGreat
open Go.RowKit
set_option linter.unusedVariables false
set_option linter.unusedSimpArgs false
theorem ret_raw3 {fn:Func} {R:Ending→World→Prop} {act:Act} {w:World} {p s:Nat} {g:Nat} {a b c:Value} {u:Value} (h:fn.results=#[.cell p 51,.tmp s]) (hp:act.tmps.getD p undef=.pointer (some ⟨g,0,none⟩)) (hs:act.tmps.getD s undef=u) (hd:act.defers=[])
  (c0:w.cell? ⟨g,0,none⟩=some a) (c1:w.cell? ⟨g,1,none⟩=some b) (c2:w.cell? ⟨g,2,none⟩=some c) (hR:R (.returned (.tuple #[.agg #[a,b,c],u])) w):bodyPost Tryz.prog fn R .ret act w:=by
 refine bodyPost_ret (v:=.tuple #[.agg #[a,b,c],u]) ?_ hd hR
 rw [Array.getD_eq_getD_getElem?] at hp hs
 have hl:(loadVar 51 ⟨g,0,none⟩).run Tryz.prog w=.ok (.agg #[a,b,c]) w:=by simp [loadVar,go_sem,c0,c1,c2,Result.andThen]
 simp [results,h,hp,hs,asAddr,hl,Result.andThen]
def GotRaw (w:World) (t:Int) (L:List Int) (E:Int) (e:Ending) (w':World):Prop :=
 Below w.heap.size w w'∧((E=0∧∃ q d,e=.returned (.tuple #[.agg #[.int .i64 t,.bool false,.slice q L.length d],.int .i64 0])∧Frs w' w.heap.size q L.length d L) ∨
  (E≠0∧e=.returned (.tuple #[.agg #[.int .i64 0,.bool false,.slice none 0 0],.int .i64 E])))
def rawE (t:Int) (L:List Int) (E:Int):Int:=if t<1∨255<t then 5 else if E≠0 then E else if 65531<L.length then 11 else 0
end Go.Proofs.YtgpigjoonhghhaaGreat

namespace Go.Proofs.YtgpigjoonhghhaaGreat
open Go.RowKit
set_option linter.unusedVariables false
theorem ret_adok {fn:Func} {R:Ending→World→Prop} {a:Act} {w:World} {p u:Nat} {g:Nat} {x:Ad} {v:Value} (h:fn.results=#[.cell p 120,.tmp u]) (hp:a.tmps.getD p undef=.pointer (some ⟨g,0,none⟩)) (hu:a.tmps.getD u undef=v) (hd:a.defers=[])
  (hh:AdIn w g x) (hR:R (.returned (.tuple #[(.agg #[.int .i64 x.f,.int .u64 x.h,.int .u64 x.l]),v])) w):bodyPost Tryz.prog fn R .ret a w:=by
 refine bodyPost_ret (v:=.tuple #[(.agg #[.int .i64 x.f,.int .u64 x.h,.int .u64 x.l]),v]) ?_ hd hR
 rw [results_cell_tmp h]
 simp only [hp]
 simp [Result.andThen,hu,asAddr,load_ad hh]
theorem rnum_b (p:Option Addr) (n c:Nat) (xs:List Int) (w:World) (h:Byt w p n c xs) (a k:Nat) (A K:Int) (hA:A=a) (hK:K=k) (h1:1≤k) (h8:k≤8) (hin:a+k≤n) :
  Calls Tryz.prog 42 #[.slice p n c,.int .i64 A,.int .i64 K] w fun e w'=>e=.returned (.tuple #[.int .u64 (nAt xs a k),.bool true])∧w=w':=by
 subst hA hK
 exact rnumber_yes p n c xs w h a k h1 h8 hin
theorem rget4_any (p:Option Addr) (n c:Nat) (xs:List Int) (w:World) (h:Byt w p n c xs) (a:Nat) (A:Int) (hA:A=a) (hin:a+4≤n) :
  Calls Tryz.prog 63 #[.slice p n c,.int .i64 A,.int .i64 4] w fun e w'=>e=.returned (.tuple #[.agg #[.int .i64 4,.int .u64 0,.int .u64 (nAt xs a 4)],.bool true])∧Below w.heap.size w w':=by
 subst hA
 have hn:=h.le
 have HN:=hidden (rnum_b p n c xs _ (h.alloc (.cells #[.int .i64 0,.int .u64 0,.int .u64 0] 120)) a 4 a 4 rfl rfl (by omega) (by omega) (by omega))
 have HB:=hidden ((Below.refl w.heap.size w).alloc (Nat.le_refl _) (.cells #[.int .i64 0,.int .u64 0,.int .u64 0] 120))
 clear h
 go_enter Tryz.func63,Tryz.ntmps63
 go_wp2_with (first
  | (go_at_call 42;(with_reducible refine (HN.out).mono ?_);rintro e w' ⟨rfl,rfl⟩)
  | fail)
 refine ret_adok (g:=w.heap.size) (x:=⟨4,0,nAt xs a 4⟩) rfl rfl rfl rfl ?_ ?_
 ·exact ⟨by go_simp,by go_simp,by go_simp,fun j=>by go_simp⟩
 ·exact ⟨rfl,(Below.refl _ _).alloc (Nat.le_refl _) _⟩
theorem rget6_any (p:Option Addr) (n c:Nat) (xs:List Int) (w:World) (h:Byt w p n c xs) (a:Nat) (A:Int) (hA:A=a) (hin:a+16≤n) :
  Calls Tryz.prog 63 #[.slice p n c,.int .i64 A,.int .i64 6] w fun e w'=>e=.returned (.tuple #[.agg #[.int .i64 6,.int .u64 (nAt xs a 8),.int .u64 (nAt xs (a+8) 8)],.bool true])∧Below w.heap.size w w':=by
 subst hA
 have hn:=h.le
 have HN:=hidden (rnum_b p n c xs _ (h.alloc (.cells #[.int .i64 0,.int .u64 0,.int .u64 0] 120)) a 8 a 8 rfl rfl (by omega) (by omega) (by omega))
 have HM:=hidden (rnum_b p n c xs _ (h.alloc (.cells #[.int .i64 0,.int .u64 0,.int .u64 0] 120)) (a+8) 8 ((a:Int)+8) 8 (by omega) rfl (by omega) (by omega) (by omega))
 have HB:=hidden ((Below.refl w.heap.size w).alloc (Nat.le_refl _) (.cells #[.int .i64 0,.int .u64 0,.int .u64 0] 120))
 have hw:IntKind.i64.wrap ((a:Int)+8)=(a:Int)+8:=by rw [IntKind.wrap_i64];omega
 clear h
 go_enter Tryz.func63,Tryz.ntmps63
 go_wp2_with (first
  | (go_at_call 42;(first | (with_reducible refine (HN.out).mono ?_) | (with_reducible refine (HM.out).mono ?_));rintro e w' ⟨rfl,rfl⟩)
  | fail)
 refine ret_adok (g:=w.heap.size) (x:=⟨6,nAt xs a 8,nAt xs (a+8) 8⟩) rfl rfl rfl rfl ?_ ?_
 ·exact ⟨by go_simp,by go_simp,by go_simp,fun j=>by go_simp⟩
 ·exact ⟨rfl,(Below.refl _ _).alloc (Nat.le_refl _) _⟩
end Go.Proofs.YtgpigjoonhghhaaGreat

namespace Go.Proofs.YtgpigjoonhghhaaGreat
open Go.RowKit
set_option linter.unusedVariables false
theorem needL_int (x:Int) (q:Bool) : ∀ k∈needL x q,IntR k:=by
 intro k hk
 unfold needL at hk
 unfold IntR
 cases q<;>(repeat' split at hk)<;>simp at hk<;>omega
set_option maxHeartbeats 6400000 in
set_option maxRecDepth 100000 in
theorem complete_any (i r nx x f m:Int) (p:Option Addr) (n c:Nat) (l:List Pv) (b:Nat) (ts:List Int) (w:World) (h:RdG KPv DPv w p n c l) (hn:n≤100000) (hx:IntR x) (hF:Fnd w b ts) :
  Calls Tryz.prog 30 #[.agg #[.int .u64 i,.int .u64 r,.int .i64 nx,.int .i64 x,.int .i64 f,.int .u32 m,.slice p n c],.map (some b)] w fun e w'=>e=.returned (.bool ((needL x (bits BinOp.and IntKind.i64 f 32 == 0)).all (fun k=>decide (k∈ts)) || (x == 34 && (l.all plainP && l.any (isNote 16390)))))∧Below w.heap.size w w':=by
 have HBX:=hidden ((Below.refl w.heap.size w).alloc (Nat.le_refl _) (.cells #[.int .u64 i,.int .u64 r,.int .i64 nx,.int .i64 x,.int .i64 f,.int .u32 m,.slice p n c] 32))
 have HCX:Hid (∀ j u,(#[Value.int .u64 i,.int .u64 r,.int .i64 nx,.int .i64 x,.int .i64 f,.int .u32 m,.slice p n c]:Array Value)[j]?=some u→(w.alloc (.cells #[.int .u64 i,.int .u64 r,.int .i64 nx,.int .i64 x,.int .i64 f,.int .u32 m,.slice p n c] 32)).cell? ⟨w.heap.size,j,none⟩=some u):=fun j u hj=>by
  rw [World.cell?_alloc_at _ _ _ _ rfl]
  simpa using hj
 have HA:=hidden (fun W (hW:Below w.heap.size w W)=>asksCookie_any i r nx x f m p n c l W (h.below hW) hn)
 have HND:=hidden (needed_any i r nx x f m (w.alloc (.cells #[.int .u64 i,.int .u64 r,.int .i64 nx,.int .i64 x,.int .i64 f,.int .u32 m,.slice p n c] 32)) hx)
 have HLI:=hidden (needL_int x (bits BinOp.and IntKind.i64 f 32 == 0))
 have HFN:=hidden hF
 obtain ⟨A,hA⟩ : ∃ A,(l.all plainP && l.any (isNote 16390))=A:=⟨_,rfl⟩
 rw [hA] at HA ⊢
 generalize needL x (bits BinOp.and IntKind.i64 f 32 == 0)=L at HND HLI ⊢
 obtain ⟨R,hR⟩ : ∃ R,(L.all (fun k=>decide (k∈ts)) || (x == 34 && A))=R:=⟨_,rfl⟩
 have HR:Is ((L.drop 0).all (fun k=>decide (k∈ts)) || (x == 34 && A)) R:=⟨by simpa using hR⟩
 rw [hR]
 clear hR h hA hx hF
 go_enter Tryz.func30,Tryz.ntmps30
 go_wp2_with (first
  | (go_at_call 54;(with_reducible refine (HND.out).mono ?_);rintro _ w1 ⟨v,rfl,⟨p1,n1,c1,rfl,hn1,hm1,hmem⟩,hb1⟩;have HB1:=hidden (HBX.out.trans (hb1.mono HBX.out.size));have HC1:=hidden (cell_below hb1);have HMM:=hidden hmem;have HL1:=Is.mk hn1;clear hb1 hmem hn1)
  | fail)
 go_loopw [11] (fun v wr=>∃ (j:Nat),j≤n1∧v=.int .i64 j∧Is ((L.drop j).all (fun k=>decide (k∈ts)) || (x == 34 && A)) R∧wr=w1) (fun v _=>n1 - (intOf v).toNat)
 case atStart=>exact ⟨0,by omega,rfl,HR,rfl⟩
 case round =>
  obtain ⟨j,hj,rfl,hrel,rfl⟩:=hrel
  have HB:=HB1
  have m0:=HC1.out _ _ (HCX.out 0 _ rfl)
  have m1:=HC1.out _ _ (HCX.out 1 _ rfl)
  have m2:=HC1.out _ _ (HCX.out 2 _ rfl)
  have m3:=HC1.out _ _ (HCX.out 3 _ rfl)
  have m4:=HC1.out _ _ (HCX.out 4 _ rfl)
  have m5:=HC1.out _ _ (HCX.out 5 _ rfl)
  have m6:=HC1.out _ _ (HCX.out 6 _ rfl)
  by_cases hlt:j<n1
  ·have hlt':(j:Int)<n1:=by omega
   obtain ⟨g,rfl,hcc⟩:=HMM.out (by omega)
   have hl:j<L.length:=by rw [←HL1.eq];exact hlt
   have hcj:=hcc j L[j] (List.getElem?_eq_getElem hl)
   have hlk:=(HFN.out.below HB.out).look L[j] (HLI.out _ (List.getElem_mem hl))
   have hf:=hrel.eq
   rw [List.drop_eq_getElem_cons hl,List.all_cons] at hf
   generalize L[j]=k at hcj hlk hf
   generalize decide (k∈ts)=z at hlk hf
   clear hcc hrel hl
   cases z with
   | true =>
    have HT:Is ((L.drop (j+1)).all (fun k=>decide (k∈ts)) || (x == 34 && A)) R:=⟨by simpa using hf⟩
    clear hf
    go_wp2
    go_roundw
    case rel=>exact ⟨j+1,by omega,by go_num,HT,by first | rfl | trivial⟩
    case measure=>simp [intOf];omega
   | false =>
    have HT:Is (x == 34 && A) R:=⟨by simpa using hf⟩
    clear hf
    cases hq:(x == 34) with
    | true =>
     rw [hq] at HT
     go_wp2_with (first
      | (go_at_call 55;(with_reducible refine (HA.out _ HB.out).mono ?_);rintro _ w2 ⟨rfl,hb2⟩;have HB2:=hidden (HB.out.trans (hb2.mono HB.out.size));clear hb2)
      | fail)
     go_ret
     exact ⟨by rw [←HT.eq];rfl,HB2.out⟩
    | false =>
     rw [hq] at HT
     go_wp2
     go_ret
     exact ⟨by rw [←HT.eq];rfl,HB.out⟩
  ·have hlt':¬ (j:Int)<n1:=by omega
   have hd:L.drop j=[]:=List.drop_eq_nil_of_le (by rw [←HL1.eq];omega)
   have hf:=hrel.eq
   rw [hd,List.all_nil,Bool.true_or] at hf
   have HF:=Is.mk hf
   clear hf hd hrel
   go_wp2
   go_ret
   exact ⟨by rw [←HF.eq];rfl,HB.out⟩
end Go.Proofs.YtgpigjoonhghhaaGreat

namespace Go.Proofs.YtgpigjoonhghhaaGreat
open Go.RowKit
set_option linter.unusedVariables false
theorem next_pa {W w wr0:World} {k:Nat} {x:Pv} (H:Hid (PyS W w wr0 k x)) (hk:k<w.heap.size) (wr:World) (h:PyS W w wr k x) (m:Int) (hm:1≤m∧m≤9223372036854775807) :
  Calls Tryz.prog 10 #[.pointer (some ⟨k,0,none⟩),.int .i64 m] wr fun e w'=>∃ r:Int,e=.returned (.int .i64 r)∧0≤r∧r<m∧PyS W w w' k x∧wr.grownBy w' (some k):=next_ps h hk m hm
theorem bytes_pa {W w wr0:World} {k:Nat} {x:Pv} (H:Hid (PyS W w wr0 k x)) (hk:k<w.heap.size) (wr:World) (h:PyS W w wr k x) (n:Nat) (hn:n≤100000) :
  Calls Tryz.prog 34 #[.pointer (some ⟨k,0,none⟩),.int .i64 n] wr fun e w'=>∃ p c ys,e=.returned (.slice p n c)∧Bod w' (w.heap.size+2) p n c ys∧PyS W w w' k x∧wr.grownBy w' (some k):=bytes_ps h hk n hn
theorem PyS.put {W w wx wy:World} {k:Nat} {x x':Pv} (h:PyS W w wx k x) (hk:k<w.heap.size) (hb:W.heap.size≤w.heap.size) (hy:wx.grownBy wy (some (w.heap.size+1))) (hS:PvIn wy (w.heap.size+1) x'):PyS W w wy k x' :=
 ⟨h.cod.grown hy (by simp;omega) (by intro j hj;simp at hj;omega),grown_own h.gr hy (by intro j hj;simp at hj;omega),h.R.grown hy (by simp),hS,by have:=h.ge;have:=hy.size;omega⟩
theorem PvIn.setE {w:World} {g:Nat} {x:Pv} (h:PvIn w g x) (z:Int) (s:Sv):PvIn ((w.setCell ⟨g,2,none⟩ (.int .i64 z)).setCell ⟨g,3,none⟩ (.slice s.p s.n s.c)) g { x with eg:=z,ed:=s }:=by
 obtain ⟨c0,c1,c2,c3,c4,c5,c6,c7,c8,c9,c10,c11,c12,c13,c14,c15,fr⟩:=h
 exact ⟨by go_simp,by go_simp,by go_simp,by go_simp,by go_simp,by go_simp,by go_simp,by go_simp,by go_simp,by go_simp,by go_simp,by go_simp,by go_simp,by go_simp,by go_simp,by go_simp,fun j=>by rw [World.frozen?_setCell,World.frozen?_setCell];exact fr j⟩
theorem PvIn.setI {w:World} {g:Nat} {x:Pv} (h:PvIn w g x) (z:Int) (s:Sv):PvIn ((w.setCell ⟨g,4,none⟩ (.int .i64 z)).setCell ⟨g,5,none⟩ (.slice s.p s.n s.c)) g { x with ik:=z,id:=s }:=by
 obtain ⟨c0,c1,c2,c3,c4,c5,c6,c7,c8,c9,c10,c11,c12,c13,c14,c15,fr⟩:=h
 exact ⟨by go_simp,by go_simp,by go_simp,by go_simp,by go_simp,by go_simp,by go_simp,by go_simp,by go_simp,by go_simp,by go_simp,by go_simp,by go_simp,by go_simp,by go_simp,by go_simp,fun j=>by rw [World.frozen?_setCell,World.frozen?_setCell];exact fr j⟩
theorem PvIn.setA {w:World} {g:Nat} {x:Pv} (h:PvIn w g x) (z:Int) (s:Sv):PvIn ((w.setCell ⟨g,6,none⟩ (.int .i64 z)).setCell ⟨g,7,none⟩ (.slice s.p s.n s.c)) g { x with am:=z,ad:=s }:=by
 obtain ⟨c0,c1,c2,c3,c4,c5,c6,c7,c8,c9,c10,c11,c12,c13,c14,c15,fr⟩:=h
 exact ⟨by go_simp,by go_simp,by go_simp,by go_simp,by go_simp,by go_simp,by go_simp,by go_simp,by go_simp,by go_simp,by go_simp,by go_simp,by go_simp,by go_simp,by go_simp,by go_simp,fun j=>by rw [World.frozen?_setCell,World.frozen?_setCell];exact fr j⟩
theorem PvIn.setD {w:World} {g:Nat} {x:Pv} (h:PvIn w g x) (z:Int) (s:Sv):PvIn ((w.setCell ⟨g,12,none⟩ (.int .i64 z)).setCell ⟨g,13,none⟩ (.slice s.p s.n s.c)) g { x with dp:=z,ds:=s }:=by
 obtain ⟨c0,c1,c2,c3,c4,c5,c6,c7,c8,c9,c10,c11,c12,c13,c14,c15,fr⟩:=h
 exact ⟨by go_simp,by go_simp,by go_simp,by go_simp,by go_simp,by go_simp,by go_simp,by go_simp,by go_simp,by go_simp,by go_simp,by go_simp,by go_simp,by go_simp,by go_simp,by go_simp,fun j=>by rw [World.frozen?_setCell,World.frozen?_setCell];exact fr j⟩
theorem PvIn.setP {w:World} {g:Nat} {x:Pv} (h:PvIn w g x) (z:Int) (s:Sv):PvIn ((w.setCell ⟨g,8,none⟩ (.int .i64 z)).setCell ⟨g,9,none⟩ (.slice s.p s.n s.c)) g { x with np:=z,ns:=s }:=by
 obtain ⟨c0,c1,c2,c3,c4,c5,c6,c7,c8,c9,c10,c11,c12,c13,c14,c15,fr⟩:=h
 exact ⟨by go_simp,by go_simp,by go_simp,by go_simp,by go_simp,by go_simp,by go_simp,by go_simp,by go_simp,by go_simp,by go_simp,by go_simp,by go_simp,by go_simp,by go_simp,by go_simp,fun j=>by rw [World.frozen?_setCell,World.frozen?_setCell];exact fr j⟩
theorem PvIn.setN {w:World} {g:Nat} {x:Pv} (h:PvIn w g x) (a t:Int) (s d:Sv):PvIn ((((w.setCell ⟨g,8,none⟩ (.int .i64 a)).setCell ⟨g,9,none⟩ (.slice s.p s.n s.c)).setCell ⟨g,10,none⟩ (.int .i64 t)).setCell ⟨g,11,none⟩ (.slice d.p d.n d.c)) g { x with np:=a,ns:=s,nt:=t,nd:=d }:=by
 obtain ⟨c0,c1,c2,c3,c4,c5,c6,c7,c8,c9,c10,c11,c12,c13,c14,c15,fr⟩:=h
 exact ⟨by go_simp,by go_simp,by go_simp,by go_simp,by go_simp,by go_simp,by go_simp,by go_simp,by go_simp,by go_simp,by go_simp,by go_simp,by go_simp,by go_simp,by go_simp,by go_simp,fun j=>by rw [World.frozen?_setCell,World.frozen?_setCell,World.frozen?_setCell,World.frozen?_setCell];exact fr j⟩
theorem byt_at (w w':World) (xs:List Int) (b:Nat) (hl:xs.length≤1000) (hr : ∀ x∈xs,0≤x∧x≤255) (hc : ∀ i (h:i<xs.length),w'.cell? ⟨b,i,none⟩=some (.int .u8 xs[i])):Byt w' (some ⟨b,0,none⟩) xs.length xs.length xs :=
 ⟨rfl,Nat.le_refl _,by unfold maxLen;omega,hr,fun hn=>⟨b,0,rfl,fun i hi=>by
  rw [Nat.zero_add,hc i hi]
  simp [List.getD_eq_getElem?_getD,List.getElem?_eq_getElem hi]⟩⟩
theorem two_sb (w w':World) (k:Nat) (hk:k<w.heap.size) (hg:(((w.alloc (.cells #[.int .u8 1,.int .u8 2,.int .u8 3,.int .u8 4] 5)).alloc (.cells #[.int .u8 1,.int .u8 2,.int .u8 3,.int .u8 5] 5)).alloc (.cells #[.slice (some ⟨w.heap.size,0,none⟩) 4 4,.slice (some ⟨w.heap.size+1,0,none⟩) 4 4] 22)).grownBy w' (some k)) (base:Nat) (hb:base≤w.heap.size) :
  ∀ w'',Kpt w' w'' base→RdG KSb DSb w'' (some ⟨w.heap.size+1+1,0,none⟩) 2 2 [⟨some ⟨w.heap.size,0,none⟩,4,4,[1,2,3,4]⟩,⟨some ⟨w.heap.size+1,0,none⟩,4,4,[1,2,3,5]⟩]:=by
 intro w'' hk2
 have key : ∀ b j v,w.heap.size≤b→(((w.alloc (.cells #[.int .u8 1,.int .u8 2,.int .u8 3,.int .u8 4] 5)).alloc (.cells #[.int .u8 1,.int .u8 2,.int .u8 3,.int .u8 5] 5)).alloc (.cells #[.slice (some ⟨w.heap.size,0,none⟩) 4 4,.slice (some ⟨w.heap.size+1,0,none⟩) 4 4] 22)).cell? ⟨b,j,none⟩=some v→w''.cell? ⟨b,j,none⟩=some v:=fun b j v hbb h=>hk2 _ _ (by show base≤b;omega) (hg.cell h (by simp;omega))
 have b1:Byt w'' (some ⟨w.heap.size,0,none⟩) 4 4 [1,2,3,4]:=byt_at w w'' [1,2,3,4] _ (by decide) (by decide) (fun i hi=>key _ _ _ (by omega) (by
  have:i=0∨i=1∨i=2∨i=3:=by simp at hi;omega
  rcases this with rfl | rfl | rfl | rfl<;>go_simp))
 have b2:Byt w'' (some ⟨w.heap.size+1,0,none⟩) 4 4 [1,2,3,5]:=byt_at w w'' [1,2,3,5] _ (by decide) (by decide) (fun i hi=>key _ _ _ (by omega) (by
  have:i=0∨i=1∨i=2∨i=3:=by simp at hi;omega
  rcases this with rfl | rfl | rfl | rfl<;>go_simp))
 refine ⟨rfl,Nat.le_refl _,by unfold maxLen;omega,fun _=>⟨_,rfl,fun j u hj=>key _ _ _ (by omega) ?_⟩,fun x hx=>?_⟩
 ·have hj':([.slice (some ⟨w.heap.size,0,none⟩) 4 4,.slice (some ⟨w.heap.size+1,0,none⟩) 4 4]:List Value)[j]?=some u:=hj
  have:j=0∨j=1:=by have:=(List.getElem?_eq_some_iff.1 hj').1;simp at this;omega
  rcases this with rfl | rfl
  all_goals
   simp at hj'
   subst hj'
   go_simp
 ·simp at hx
  rcases hx with rfl | rfl
  ·exact b1
  ·exact b2
theorem lst34 (j:Nat) (hj:j<2) : ∃ t:Int,(#[Value.int .i64 31,.int .i64 1024]:Array Value)[j]?=some (.int .i64 t)∧([Value.int .i64 31,.int .i64 1024]:List Value)[j]?=some (.int .i64 t)∧0≤t∧t≤65535∧(t=31∨t=1024):=by
 have:j=0∨j=1:=by omega
 rcases this with rfl | rfl
 all_goals exact ⟨_,rfl,rfl,by omega,by omega,by omega⟩
theorem lst35 (j:Nat) (hj:j<3) : ∃ t:Int,(#[Value.int .i64 2,.int .i64 3,.int .i64 11]:Array Value)[j]?=some (.int .i64 t)∧([Value.int .i64 2,.int .i64 3,.int .i64 11]:List Value)[j]?=some (.int .i64 t)∧0≤t∧t≤65535∧(t=2∨t=3∨t=11):=by
 have:j=0∨j=1∨j=2:=by omega
 rcases this with rfl | rfl | rfl
 all_goals exact ⟨_,rfl,rfl,by omega,by omega,by omega⟩
theorem lst39 (j:Nat) (hj:j<2) : ∃ t:Int,(#[Value.int .i64 2,.int .i64 14]:Array Value)[j]?=some (.int .i64 t)∧([Value.int .i64 2,.int .i64 14]:List Value)[j]?=some (.int .i64 t)∧0≤t∧t≤65535∧(t=2∨t=14):=by
 have:j=0∨j=1:=by omega
 rcases this with rfl | rfl
 all_goals exact ⟨_,rfl,rfl,by omega,by omega,by omega⟩
theorem lst41 (j:Nat) (hj:j<5) : ∃ t:Int,(#[Value.int .i64 14,.int .i64 16390,.int .i64 16388,.int .i64 24,.int .i64 16396]:Array Value)[j]?=some (.int .i64 t)∧([Value.int .i64 14,.int .i64 16390,.int .i64 16388,.int .i64 24,.int .i64 16396]:List Value)[j]?=some (.int .i64 t)∧0≤t∧t≤65535∧(t=14∨t=16390∨t=16388∨t=24∨t=16396):=by
 have:j=0∨j=1∨j=2∨j=3∨j=4:=by omega
 rcases this with rfl | rfl | rfl | rfl | rfl
 all_goals exact ⟨_,rfl,rfl,by omega,by omega,by omega⟩
end Go.Proofs.YtgpigjoonhghhaaGreat
