/-
  Package payload's readers of nonces and of identities, and the first errors that they tell.
  Ranges of addresses: all of a family, and the drawn ones.
  The range of addresses that a list of choices makes.
  What package proposal's Check returns.
-/
import Derived.Test.YtgpigjoonhghhaaGreatQZ3
import Derived.Test.YtgpigjoonhghhaaGreatQZ2
import Derived.Test.YtgpigjoonhghhaaGreatQRCheck4
import Derived.Deep.RegionLaw
namespace Go.Proofs.YtgpigjoonhghhaaGreat
open Go.RowKit
set_option linter.unusedVariables false
def ReadPv (w:World) (E:Int) (good:World→Pv→Prop) (e:Ending) (w':World):Prop:=∃ x:Pv,e=.returned (.tuple #[(.agg #[.int .i64 x.t,.slice x.pr.p x.pr.n x.pr.c,.int .i64 x.eg,.slice x.ed.p x.ed.n x.ed.c,.int .i64 x.ik,.slice x.id.p x.id.n x.id.c,.int .i64 x.am,.slice x.ad.p x.ad.n x.ad.c,.int .i64 x.np,.slice x.ns.p x.ns.n x.ns.c,.int .i64 x.nt,.slice x.nd.p x.nd.n x.nd.c,.int .i64 x.dp,.slice x.ds.p x.ds.n x.ds.c,.slice x.se.p x.se.n x.se.c,.slice x.da.p x.da.n x.da.c]),.int .i64 E])∧Below w.heap.size w w'∧(E=0→good w' x)
def FrV (w:World) (base:Nat) (s:Sv) (xs:List Int):Prop:=Frs w base s.p s.n s.c xs
def nonceE (n:Nat):Int:=if n<16∨256<n then 13 else 0
theorem checkNonce_any (p:Option Addr) (n c:Nat) (w:World) (hn:n≤9223372036854775807) :
    Calls Tryz.prog 107 #[.slice p n c] w fun e w'=>e=.returned (.int .i64 (nonceE n))∧w=w':=by
  unfold nonceE
  by_cases h1:n<16
  · rw [if_pos (Or.inl h1)]
    go_enter Tryz.func107,Tryz.ntmps107
    go_wp2
    go_ret
    exact ⟨rfl,rfl⟩
  by_cases h2:256<n
  · rw [if_pos (Or.inr h2)]
    go_enter Tryz.func107,Tryz.ntmps107
    go_wp2
    go_ret
    exact ⟨rfl,rfl⟩
  · rw [if_neg (by omega)]
    go_enter Tryz.func107,Tryz.ntmps107
    go_wp2
    go_ret
    exact ⟨rfl,rfl⟩
set_option maxHeartbeats 800000 in
set_option maxRecDepth 100000 in
theorem nonce_read (p:Option Addr) (n c:Nat) (xs:List Int) (w:World) (h:Byt w p n c xs) (hb:n≤140737488355328) :
    Calls Tryz.prog 86 #[.slice p n c] w (ReadPv w (nonceE n) fun w' x=>FrV w' w.heap.size x.da xs):=by
  have hn:=h.le
  have H1:=hidden (h.alloc (.cells #[.int .i64 0,.slice none 0 0,.int .i64 0,.slice none 0 0,.int .i64 0,.slice none 0 0,.int .i64 0,.slice none 0 0,.int .i64 0,.slice none 0 0,.int .i64 0,.slice none 0 0,.int .i64 0,.slice none 0 0,.slice none 0 0,.slice none 0 0] 49))
  have HB:=hidden ((Below.refl w.heap.size w).alloc (Nat.le_refl _) (.cells #[.int .i64 0,.slice none 0 0,.int .i64 0,.slice none 0 0,.int .i64 0,.slice none 0 0,.int .i64 0,.slice none 0 0,.int .i64 0,.slice none 0 0,.int .i64 0,.slice none 0 0,.int .i64 0,.slice none 0 0,.slice none 0 0,.slice none 0 0] 49))
  have HZ:Hid (PvIn (w.alloc (.cells #[.int .i64 0,.slice none 0 0,.int .i64 0,.slice none 0 0,.int .i64 0,.slice none 0 0,.int .i64 0,.slice none 0 0,.int .i64 0,.slice none 0 0,.int .i64 0,.slice none 0 0,.int .i64 0,.slice none 0 0,.slice none 0 0,.slice none 0 0] 49)) w.heap.size zeroP):=hidden (PvIn.new w zeroP 49)
  have HL:=hidden h.len
  have HR:=hidden h.rng
  clear h
  go_enter Tryz.func86,Tryz.ntmps86
  go_wp2_with (first
    | (go_at_call 106;(with_reducible refine (cloneB_any _ _ _ _ _ H1.out hb).mono ?_);rintro e w2 ⟨v2,rfl,ho,hbc⟩;obtain ⟨q2,d2,rfl,hf0⟩:=ho.frs HL.out HR.out;have HF0:=hidden hf0;have HB2:=hidden (HB.out.trans (hbc.mono HB.out.size));have HZ2:=hidden (HZ.out.below hbc);obtain ⟨z0,z1,z2,z3,z4,z5,z6,z7,z8,z9,z10,z11,z12,z13,z14,z15,zf⟩:=HZ2.out;clear ho hbc hf0)
    | (go_at_call 107;(with_reducible refine (checkNonce_any _ _ _ _ (by omega)).mono ?_);rintro e w3 ⟨rfl,rfl⟩)
    | fail)
  have hlo:=setPv_grown w2 w.heap.size ⟨0,nilV,0,nilV,0,nilV,0,nilV,0,nilV,0,nilV,0,nilV,nilV,⟨q2,n,d2⟩⟩
  have hz:=setPv_in HZ2.out ⟨0,nilV,0,nilV,0,nilV,0,nilV,0,nilV,0,nilV,0,nilV,nilV,⟨q2,n,d2⟩⟩
  have hfl:=(HF0.out.low hlo (by simp)).mono (show w.heap.size≤_ from HB.out.size)
  have HBS:=hidden (HB2.out.grown hlo HB2.out.size (fun j hj=>by cases hj;exact Nat.le_refl _))
  simp only [setPv,nilV] at hz hfl HBS
  have HZZ:=hidden hz
  have HFF:=hidden hfl
  clear hz hfl hlo
  refine ret_pv (g:=w.heap.size) rfl rfl rfl rfl HZZ.out ?_
  exact ⟨_,rfl,HBS.out,fun _=>HFF.out⟩
def idE (k:Int) (n:Nat):Int:=if k=1 then (if n=4 then 0 else 2) else if k=5 then (if n=16 then 0 else 2) else if k=2∨k=3∨k=11 then (if n=0 then 2 else 0) else 5
theorem idE_cases (k:Int) (n:Nat) (E:Int) (h:idE k n=E) :
    (k=1∧((n=4∧E=0)∨(¬ n=4∧E=2)))∨((k == 1)=false∧k=5∧((n=16∧E=0)∨(¬ n=16∧E=2))) ∨
    ((k == 1)=false∧(k == 5)=false∧(k=2∨k=3∨k=11)∧((n=0∧E=2)∨(¬ n=0∧E=0))) ∨
    ((k == 1)=false∧(k == 5)=false∧(k == 2)=false∧(k == 3)=false∧(k == 11)=false∧E=5):=by
  unfold idE at h
  subst h
  by_cases h1:k=1
  · subst h1
    by_cases h:n=4<;>simp [h]
  by_cases h2:k=5
  · subst h2
    by_cases h:n=16<;>simp [h]
  by_cases h3:k=2∨k=3∨k=11
  · by_cases h:n=0<;>simp [h1,h2,h3,h]
  · simp [h1,h2]
    simp only [not_or] at h3
    simp [h3]
set_option maxHeartbeats 800000 in
theorem checkIdentity_any (k:Int) (p:Option Addr) (n c:Nat) (w:World) (hn:n≤9223372036854775807) (E:Int) (hE:idE k n=E) :
    Calls Tryz.prog 104 #[.agg #[.int .i64 k,.slice p n c]] w fun e w'=>e=.returned (.int .i64 E)∧Below w.heap.size w w':=by
  have HB:=hidden ((Below.refl w.heap.size w).alloc (Nat.le_refl _) (.cells #[.int .i64 k,.slice p n c] 39))
  rcases idE_cases k n E hE with ⟨rfl,⟨h,rfl⟩ | ⟨h,rfl⟩⟩ | ⟨k1,rfl,⟨h,rfl⟩ | ⟨h,rfl⟩⟩ | ⟨k1,k2,k3,⟨h,rfl⟩ | ⟨h,rfl⟩⟩ | ⟨k1,k2,k3,k4,k5,rfl⟩
  all_goals clear hE
  all_goals (try rcases k3 with rfl | rfl | rfl)
  all_goals (try subst h)
  all_goals (try have hge:(1:Int)≤n:=(by omega))
  all_goals (try have hz:((n:Int) == 4)=false:=(by simp;omega))
  all_goals (try have hz2:((n:Int) == 16)=false:=(by simp;omega))
  all_goals (try clear h)
  all_goals
    go_enter Tryz.func104,Tryz.ntmps104
    go_wp2
    go_ret
    exact ⟨rfl,HB.out⟩
end Go.Proofs.YtgpigjoonhghhaaGreat

namespace Go.Proofs.YtgpigjoonhghhaaGreat
open Go.RowKit
set_option linter.unusedVariables false
theorem put_two0 {w:World} {B R S:Nat} {r s x y:Ad} (hr:AdIn w R r) (hs:AdIn w S s) (hne:R≠S) (h1:B≤R) (h2:B≤S):AdIn ((((((w.setCell ⟨R,0,none⟩ (.int .i64 x.f)).setCell ⟨R,1,none⟩ (.int .u64 x.h)).setCell ⟨R,2,none⟩ (.int .u64 x.l)).setCell ⟨S,0,none⟩ (.int .i64 y.f)).setCell ⟨S,1,none⟩ (.int .u64 y.h)).setCell ⟨S,2,none⟩ (.int .u64 y.l)) R x∧AdIn ((((((w.setCell ⟨R,0,none⟩ (.int .i64 x.f)).setCell ⟨R,1,none⟩ (.int .u64 x.h)).setCell ⟨R,2,none⟩ (.int .u64 x.l)).setCell ⟨S,0,none⟩ (.int .i64 y.f)).setCell ⟨S,1,none⟩ (.int .u64 y.h)).setCell ⟨S,2,none⟩ (.int .u64 y.l)) S y∧(∀ W:World,W.heap.size=B→Below B W w→Below B W ((((((w.setCell ⟨R,0,none⟩ (.int .i64 x.f)).setCell ⟨R,1,none⟩ (.int .u64 x.h)).setCell ⟨R,2,none⟩ (.int .u64 x.l)).setCell ⟨S,0,none⟩ (.int .i64 y.f)).setCell ⟨S,1,none⟩ (.int .u64 y.h)).setCell ⟨S,2,none⟩ (.int .u64 y.l)))∧(∀ (W0:World) (k:Nat),Cod W0 w k→W0.heap.size≤B→k<B→Cod W0 ((((((w.setCell ⟨R,0,none⟩ (.int .i64 x.f)).setCell ⟨R,1,none⟩ (.int .u64 x.h)).setCell ⟨R,2,none⟩ (.int .u64 x.l)).setCell ⟨S,0,none⟩ (.int .i64 y.f)).setCell ⟨S,1,none⟩ (.int .u64 y.h)).setCell ⟨S,2,none⟩ (.int .u64 y.l)) k)∧(∀ (W:World) (k:Nat),W.heap.size=B→W.grownBy w (some k)→W.grownBy ((((((w.setCell ⟨R,0,none⟩ (.int .i64 x.f)).setCell ⟨R,1,none⟩ (.int .u64 x.h)).setCell ⟨R,2,none⟩ (.int .u64 x.l)).setCell ⟨S,0,none⟩ (.int .i64 y.f)).setCell ⟨S,1,none⟩ (.int .u64 y.h)).setCell ⟨S,2,none⟩ (.int .u64 y.l)) (some k)):=by
  have hne':¬ S=R:=fun e=>hne e.symm
  refine ⟨?_,?_,?_,?_,?_⟩
  · obtain ⟨c0,c1,c2,fr⟩:=hr
    exact ⟨by go_simp,by go_simp,by go_simp,fun j=>by go_simp⟩
  · obtain ⟨c0,c1,c2,fr⟩:=hs
    exact ⟨by go_simp,by go_simp,by go_simp,fun j=>by go_simp⟩
  · intro W hW hb
    exact ((((((hb.setCell (p:=⟨R,0,none⟩) (by simp<;>omega) _).setCell (p:=⟨R,1,none⟩) (by simp<;>omega) _).setCell (p:=⟨R,2,none⟩) (by simp<;>omega) _).setCell (p:=⟨S,0,none⟩) (by simp<;>omega) _).setCell (p:=⟨S,1,none⟩) (by simp<;>omega) _).setCell (p:=⟨S,2,none⟩) (by simp<;>omega) _)
  · intro W0 k hc hB hk
    repeat' (first | with_reducible exact hc | (with_reducible refine Cod.set ?_ _ _ _ (by omega) (by omega)))
  · intro W k hW hg
    repeat' (first | with_reducible exact hg | (with_reducible refine grown_set_new ?_ _ _ _ (by omega)))
theorem put_two1 {w:World} {B R S:Nat} {r s x y:Ad} (hr:AdIn w R r) (hs:AdIn w S s) (hne:R≠S) (h1:B≤R) (h2:B≤S):AdIn ((((((w.setCell ⟨R,0,none⟩ (.int .i64 x.f)).setCell ⟨R,1,none⟩ (.int .u64 x.h)).setCell ⟨R,2,none⟩ (.int .u64 x.l)).setCell ⟨S,0,none⟩ (.int .i64 y.f)).setCell ⟨S,1,none⟩ (.int .u64 y.h)).setCell ⟨S,2,none⟩ (.int .u64 y.l)).drew R x∧AdIn ((((((w.setCell ⟨R,0,none⟩ (.int .i64 x.f)).setCell ⟨R,1,none⟩ (.int .u64 x.h)).setCell ⟨R,2,none⟩ (.int .u64 x.l)).setCell ⟨S,0,none⟩ (.int .i64 y.f)).setCell ⟨S,1,none⟩ (.int .u64 y.h)).setCell ⟨S,2,none⟩ (.int .u64 y.l)).drew S y∧(∀ W:World,W.heap.size=B→Below B W w→Below B W ((((((w.setCell ⟨R,0,none⟩ (.int .i64 x.f)).setCell ⟨R,1,none⟩ (.int .u64 x.h)).setCell ⟨R,2,none⟩ (.int .u64 x.l)).setCell ⟨S,0,none⟩ (.int .i64 y.f)).setCell ⟨S,1,none⟩ (.int .u64 y.h)).setCell ⟨S,2,none⟩ (.int .u64 y.l)).drew)∧(∀ (W0:World) (k:Nat),Cod W0 w k→W0.heap.size≤B→k<B→Cod W0 ((((((w.setCell ⟨R,0,none⟩ (.int .i64 x.f)).setCell ⟨R,1,none⟩ (.int .u64 x.h)).setCell ⟨R,2,none⟩ (.int .u64 x.l)).setCell ⟨S,0,none⟩ (.int .i64 y.f)).setCell ⟨S,1,none⟩ (.int .u64 y.h)).setCell ⟨S,2,none⟩ (.int .u64 y.l)).drew k)∧(∀ (W:World) (k:Nat),W.heap.size=B→W.grownBy w (some k)→W.grownBy ((((((w.setCell ⟨R,0,none⟩ (.int .i64 x.f)).setCell ⟨R,1,none⟩ (.int .u64 x.h)).setCell ⟨R,2,none⟩ (.int .u64 x.l)).setCell ⟨S,0,none⟩ (.int .i64 y.f)).setCell ⟨S,1,none⟩ (.int .u64 y.h)).setCell ⟨S,2,none⟩ (.int .u64 y.l)).drew (some k)):=by
  have hne':¬ S=R:=fun e=>hne e.symm
  refine ⟨?_,?_,?_,?_,?_⟩
  · obtain ⟨c0,c1,c2,fr⟩:=hr
    exact ⟨by go_simp,by go_simp,by go_simp,fun j=>by go_simp⟩
  · obtain ⟨c0,c1,c2,fr⟩:=hs
    exact ⟨by go_simp,by go_simp,by go_simp,fun j=>by go_simp⟩
  · intro W hW hb
    exact ((((((hb.setCell (p:=⟨R,0,none⟩) (by simp<;>omega) _).setCell (p:=⟨R,1,none⟩) (by simp<;>omega) _).setCell (p:=⟨R,2,none⟩) (by simp<;>omega) _).setCell (p:=⟨S,0,none⟩) (by simp<;>omega) _).setCell (p:=⟨S,1,none⟩) (by simp<;>omega) _).setCell (p:=⟨S,2,none⟩) (by simp<;>omega) _).trans (drew_below ⟨1,rfl⟩)
  · intro W0 k hc hB hk
    refine Cod.below ?_ (drew_below ⟨1,rfl⟩)
    repeat' (first | with_reducible exact hc | (with_reducible refine Cod.set ?_ _ _ _ (by omega) (by omega)))
  · intro W k hW hg
    refine grown_trans ?_ (grown_drewN _ 1 _)
    repeat' (first | with_reducible exact hg | (with_reducible refine grown_set_new ?_ _ _ _ (by omega)))
theorem put_two2 {w:World} {B R S:Nat} {r s x y:Ad} (hr:AdIn w R r) (hs:AdIn w S s) (hne:R≠S) (h1:B≤R) (h2:B≤S):AdIn ((((((w.setCell ⟨S,0,none⟩ (.int .i64 y.f)).setCell ⟨S,1,none⟩ (.int .u64 y.h)).setCell ⟨S,2,none⟩ (.int .u64 y.l)).setCell ⟨R,0,none⟩ (.int .i64 x.f)).setCell ⟨R,1,none⟩ (.int .u64 x.h)).setCell ⟨R,2,none⟩ (.int .u64 x.l)).drew R x∧AdIn ((((((w.setCell ⟨S,0,none⟩ (.int .i64 y.f)).setCell ⟨S,1,none⟩ (.int .u64 y.h)).setCell ⟨S,2,none⟩ (.int .u64 y.l)).setCell ⟨R,0,none⟩ (.int .i64 x.f)).setCell ⟨R,1,none⟩ (.int .u64 x.h)).setCell ⟨R,2,none⟩ (.int .u64 x.l)).drew S y∧(∀ W:World,W.heap.size=B→Below B W w→Below B W ((((((w.setCell ⟨S,0,none⟩ (.int .i64 y.f)).setCell ⟨S,1,none⟩ (.int .u64 y.h)).setCell ⟨S,2,none⟩ (.int .u64 y.l)).setCell ⟨R,0,none⟩ (.int .i64 x.f)).setCell ⟨R,1,none⟩ (.int .u64 x.h)).setCell ⟨R,2,none⟩ (.int .u64 x.l)).drew)∧(∀ (W0:World) (k:Nat),Cod W0 w k→W0.heap.size≤B→k<B→Cod W0 ((((((w.setCell ⟨S,0,none⟩ (.int .i64 y.f)).setCell ⟨S,1,none⟩ (.int .u64 y.h)).setCell ⟨S,2,none⟩ (.int .u64 y.l)).setCell ⟨R,0,none⟩ (.int .i64 x.f)).setCell ⟨R,1,none⟩ (.int .u64 x.h)).setCell ⟨R,2,none⟩ (.int .u64 x.l)).drew k)∧(∀ (W:World) (k:Nat),W.heap.size=B→W.grownBy w (some k)→W.grownBy ((((((w.setCell ⟨S,0,none⟩ (.int .i64 y.f)).setCell ⟨S,1,none⟩ (.int .u64 y.h)).setCell ⟨S,2,none⟩ (.int .u64 y.l)).setCell ⟨R,0,none⟩ (.int .i64 x.f)).setCell ⟨R,1,none⟩ (.int .u64 x.h)).setCell ⟨R,2,none⟩ (.int .u64 x.l)).drew (some k)):=by
  have hne':¬ S=R:=fun e=>hne e.symm
  refine ⟨?_,?_,?_,?_,?_⟩
  · obtain ⟨c0,c1,c2,fr⟩:=hr
    exact ⟨by go_simp,by go_simp,by go_simp,fun j=>by go_simp⟩
  · obtain ⟨c0,c1,c2,fr⟩:=hs
    exact ⟨by go_simp,by go_simp,by go_simp,fun j=>by go_simp⟩
  · intro W hW hb
    exact ((((((hb.setCell (p:=⟨S,0,none⟩) (by simp<;>omega) _).setCell (p:=⟨S,1,none⟩) (by simp<;>omega) _).setCell (p:=⟨S,2,none⟩) (by simp<;>omega) _).setCell (p:=⟨R,0,none⟩) (by simp<;>omega) _).setCell (p:=⟨R,1,none⟩) (by simp<;>omega) _).setCell (p:=⟨R,2,none⟩) (by simp<;>omega) _).trans (drew_below ⟨1,rfl⟩)
  · intro W0 k hc hB hk
    refine Cod.below ?_ (drew_below ⟨1,rfl⟩)
    repeat' (first | with_reducible exact hc | (with_reducible refine Cod.set ?_ _ _ _ (by omega) (by omega)))
  · intro W k hW hg
    refine grown_trans ?_ (grown_drewN _ 1 _)
    repeat' (first | with_reducible exact hg | (with_reducible refine grown_set_new ?_ _ _ _ (by omega)))
structure RangeA (f:Int) (lo hi:Ad):Prop where
  dlo:DrawA f lo
  dhi:DrawA f hi
  le:keyA lo≤keyA hi
theorem PreA.range {a lo hi:Ad} {f:Int} (hf:f=4∨f=6) (d:DrawA f a) (p:PreA a lo hi):RangeA f lo hi:=by
  have e:=d.fam
  have h1:=p.h1
  have h2:=p.h2
  have l1:=p.l1
  have l2:=p.l2
  have v:=d.ok
  have fh:=d.fit.h
  have fl:=d.fit.l
  have q1:lo.f=f:=p.f1.trans e
  have q2:hi.f=f:=p.f2.trans e
  have four:=p.four
  rw [e] at four
  have hz:f=4→a.h=0∧a.l<4294967296:=by
    intro h
    unfold validA at v
    rw [e,h] at v
    simp at v
    exact v
  refine ⟨⟨q1,⟨by omega,by omega,by omega⟩,?_⟩,⟨q2,⟨by omega,by omega,by omega⟩,?_⟩,?_⟩
  · unfold validA
    rw [q1]
    rcases hf with h | h
    · have:=hz h
      simp [h]
      omega
    · simp [h]
  · unfold validA
    rw [q2]
    rcases hf with h | h
    · have:=four h
      simp [h]
      omega
    · simp [h]
  · unfold keyA
    rw [q1,q2]
    omega
theorem draw_zero (f:Int) (hf:f=4∨f=6):DrawA f ⟨f,0,0⟩:=⟨rfl,⟨by simp;omega,by simp,by simp⟩,by unfold validA;rcases hf with rfl | rfl<;>decide⟩
set_option maxHeartbeats 1600000 in
set_option maxRecDepth 100000 in
theorem all_any (f:Int) (hf:f=4∨f=6) (w:World) :
    Calls Tryz.prog 93 #[.int .i64 f] w fun e w'=>∃ lo hi:Ad,e=.returned (.tuple #[(.agg #[.int .i64 lo.f,.int .u64 lo.h,.int .u64 lo.l]),(.agg #[.int .i64 hi.f,.int .u64 hi.h,.int .u64 hi.l])])∧RangeA f lo hi∧Below w.heap.size w w':=by
  have hz:=draw_zero f hf
  have HPX:=hidden (prefix_any ⟨f,0,0⟩ hz.fit hz.ok 0 ⟨by omega,by omega⟩)
  have HRG:=hidden (fun lo hi (p:PreA ⟨f,0,0⟩ lo hi)=>p.range hf hz)
  have HB:=hidden (below_two (w:=w) (.cells #[.int .i64 0,.int .u64 0,.int .u64 0] 120) (.cells #[.int .i64 0,.int .u64 0,.int .u64 0] 120))
  have HR:=hidden ((AdIn.new w zeroA 120).alloc (.cells #[.int .i64 0,.int .u64 0,.int .u64 0] 120))
  have HS:Hid (AdIn ((w.alloc (.cells #[.int .i64 0,.int .u64 0,.int .u64 0] 120)).alloc (.cells #[.int .i64 0,.int .u64 0,.int .u64 0] 120)) (w.heap.size+1) zeroA):=hidden (by
    have:=(AdIn.new (w.alloc (.cells #[.int .i64 0,.int .u64 0,.int .u64 0] 120)) zeroA 120)
    simpa [zeroA] using this)
  clear hz
  go_enter Tryz.func93,Tryz.ntmps93
  go_wp2_with (go_at_call 94;(with_reducible refine (HPX.out _).mono ?_);rintro e w1 ⟨lo,hi,rfl,hp,hb⟩;have HRA:=hidden (HRG.out _ _ hp);have HB1:=hidden (HB.out.trans (hb.mono HB.out.size));have HR1:=hidden (((HR.out.below hb).alloc (.cells #[.int .i64 lo.f,.int .u64 lo.h,.int .u64 lo.l] 120)).alloc (.cells #[.int .i64 hi.f,.int .u64 hi.h,.int .u64 hi.l] 120));have HS1:=hidden (((HS.out.below hb).alloc (.cells #[.int .i64 lo.f,.int .u64 lo.h,.int .u64 lo.l] 120)).alloc (.cells #[.int .i64 hi.f,.int .u64 hi.h,.int .u64 hi.l] 120));have hs1:=(HS.out.below hb).lt;clear hp hb HB HR HS HPX HRG)
  obtain ⟨r0,r1,r2,rf⟩:=HR1.out
  obtain ⟨s0,s1,s2,sf⟩:=HS1.out
  go_region
  all_goals go_wp2_with fail
  all_goals first
    | (obtain ⟨z1,z2,z3,z4,z5⟩:=put_two1 (B:=w.heap.size) (x:=lo) (y:=hi) HR1.out HS1.out (by omega) (by omega) (by omega)
       refine ret_ad2 (g1:=w.heap.size) (g2:=w.heap.size+1) (x:=lo) (y:=hi) rfl rfl rfl rfl z1 z2 ?_
       exact ⟨lo,hi,rfl,HRA.out,z3 w rfl ((HB1.out.alloc HB1.out.size _).alloc (by have:=HB1.out.size;simp;omega) _)⟩)
    | (obtain ⟨z1,z2,z3,z4,z5⟩:=put_two2 (B:=w.heap.size) (x:=lo) (y:=hi) HR1.out HS1.out (by omega) (by omega) (by omega)
       refine ret_ad2 (g1:=w.heap.size) (g2:=w.heap.size+1) (x:=lo) (y:=hi) rfl rfl rfl rfl z1 z2 ?_
       exact ⟨lo,hi,rfl,HRA.out,z3 w rfl ((HB1.out.alloc HB1.out.size _).alloc (by have:=HB1.out.size;simp;omega) _)⟩)
    | fail
end Go.Proofs.YtgpigjoonhghhaaGreat

namespace Go.Proofs.YtgpigjoonhghhaaGreat
open Go.RowKit
set_option linter.unusedVariables false
def MadeR (W w:World) (k:Nat) (f:Int) (e:Ending) (w':World):Prop:=∃ lo hi:Ad,e=.returned (.tuple #[(.agg #[.int .i64 lo.f,.int .u64 lo.h,.int .u64 lo.l]),(.agg #[.int .i64 hi.f,.int .u64 hi.h,.int .u64 hi.l])])∧RangeA f lo hi∧Cod W w' k∧w.grownBy w' (some k)
structure SS (W w wx:World) (k:Nat):Prop where
  cod:Cod W wx k
  gr:w.grownBy wx (some k)
  R:AdIn wx w.heap.size zeroA
  S:AdIn wx (w.heap.size+1) zeroA
theorem SS.grown {W w wx wy:World} {k:Nat} (h:SS W w wx k) (hk:k<w.heap.size) (hc:Cod W wy k) (hg:wx.grownBy wy (some k)):SS W w wy k :=
  ⟨hc,grown_trans h.gr hg,h.R.grown hg (by simp;omega),h.S.grown hg (by simp;omega)⟩
theorem SS.below {W w wx wy:World} {k:Nat} (h:SS W w wx k) (hb:Below wx.heap.size wx wy):SS W w wy k :=
  ⟨h.cod.below hb,grown_trans h.gr (grown_of_below hb _),h.R.below hb,h.S.below hb⟩
theorem SS.alloc {W w wx:World} {k:Nat} (h:SS W w wx k) (o:Obj):SS W w (wx.alloc o) k:=h.below ((Below.refl _ _).alloc (Nat.le_refl _) o)
theorem key_fam {f:Int} {x y:Ad} (hx:DrawA f x) (hy:DrawA f y) (h:x.h<y.h∨(x.h=y.h∧x.l≤y.l)):keyA x≤keyA y:=by
  have h1:=hx.fam
  have h2:=hy.fam
  have h3:=hx.fit.l
  have h4:=hy.fit.l
  unfold keyA
  omega
set_option maxHeartbeats 3200000 in
set_option maxRecDepth 100000 in
theorem span_any (W w:World) (k:Nat) (h:Cod W w k) (f:Int) (hf:f=4∨f=6) :
    Calls Tryz.prog 73 #[.pointer (some ⟨k,0,none⟩),.int .i64 f] w (MadeR W w k f):=by
  have hk:=h.lt
  have hbase:=h.bel.size
  have H0:=hidden (show SS W w ((w.alloc (.cells #[.int .i64 0,.int .u64 0,.int .u64 0] 120)).alloc (.cells #[.int .i64 0,.int .u64 0,.int .u64 0] 120)) k from
    ⟨(h.alloc _).alloc _,grown_alloc_new (World.grownBy_alloc w _ _) _,(AdIn.new w zeroA 120).alloc _,by
      have:=AdIn.new (w.alloc (.cells #[.int .i64 0,.int .u64 0,.int .u64 0] 120)) zeroA 120
      simpa [zeroA] using this⟩)
  have HAL:=hidden (all_any f hf)
  have HAD:=hidden (fun w' (hc:Cod W w' k)=>addr_any W w' k hc f hf)
  have hB:33≤128:=by omega
  have HPR:=hidden (fun (a:Ad) (d:DrawA f a) (n:Int) (hn:0≤n∧n≤bitsF a.f)=>prefix_any a d.fit d.ok n hn)
  have HBI:Hid (∀ (a:Ad),DrawA f a→32≤bitsF a.f):=hidden (fun a d=>by unfold bitsF;split<;>omega)
  clear h
  have HF:=hidden hf
  clear hf
  go_enter Tryz.func73,Tryz.ntmps73
  go_upto_region 2 with (go_at_call 10;(with_reducible refine (next_any W _ k ?_ _ ?_).mono ?_);exact H0.out.cod;omega;rintro e w1 ⟨r,rfl,r0,r1,hc,hg⟩;have H1:=hidden (H0.out.grown hk hc hg);clear hc hg H0)
  have hr:r=0∨r=1∨((r == 0)=false∧(r == 1)=false):=by simp;omega
  rcases hr with rfl | rfl | ⟨k1,k2⟩
  · go_wp2_with (go_at_call 93;(with_reducible refine (HAL.out _).mono ?_);rintro e w2 ⟨lo,hi,rfl,hra,hb⟩;have HRA:=hidden hra;have H2:=hidden (H1.out.below hb);obtain ⟨p0,p1,p2,pf⟩:=H2.out.R;obtain ⟨s0,s1,s2,sf⟩:=H2.out.S;clear hra hb H1)
    obtain ⟨z1,z2,z3,z4,z5⟩:=put_two0 (B:=w.heap.size) (x:=lo) (y:=hi) H2.out.R H2.out.S (by omega) (by omega) (by omega)
    refine ret_ad2 (g1:=w.heap.size) (g2:=w.heap.size+1) (x:=lo) (y:=hi) rfl rfl rfl rfl z1 z2 ?_
    exact ⟨lo,hi,rfl,HRA.out,z4 W k H2.out.cod hbase hk,z5 w k rfl H2.out.gr⟩
  · go_upto_region 6 with (first
      | (go_at_call 95;(with_reducible refine (HAD.out _ H1.out.cod).mono ?_);rintro e w2 ⟨a,rfl,hda,hc,hg⟩;have HDA:=hidden hda;have H2:=hidden (H1.out.grown hk hc hg);clear hda hc hg H1)
      | (go_at_call 10;(with_reducible refine (next_any W _ k ?_ _ ?_).mono ?_);exact H2.out.cod;omega;rintro e w3 ⟨r,rfl,r0,r1,hc,hg⟩;have H3:=hidden (H2.out.grown hk hc hg);clear hc hg H2)
      | (go_at_call 94;(refine (HPR.out a HDA.out _ ⟨by omega,by have:=HBI.out a HDA.out;omega⟩ _).mono ?_);rintro e w4 ⟨lo,hi,rfl,hp,hb⟩;have HRA:=hidden (hp.range HF.out HDA.out);have H4:=hidden (((H3.out.below hb).alloc (.cells #[.int .i64 lo.f,.int .u64 lo.h,.int .u64 lo.l] 120)).alloc (.cells #[.int .i64 hi.f,.int .u64 hi.h,.int .u64 hi.l] 120));have hs4:=(H3.out.below hb).S.lt;clear hp hb H3)
      | fail)
    obtain ⟨p0,p1,p2,pf⟩:=H4.out.R
    obtain ⟨s0,s1,s2,sf⟩:=H4.out.S
    go_region
    all_goals go_wp2_with fail
    all_goals first
      | (obtain ⟨z1,z2,z3,z4,z5⟩:=put_two1 (B:=w.heap.size) (x:=lo) (y:=hi) H4.out.R H4.out.S (by omega) (by omega) (by omega)
         refine ret_ad2 (g1:=w.heap.size) (g2:=w.heap.size+1) (x:=lo) (y:=hi) rfl rfl rfl rfl z1 z2 ?_
         exact ⟨lo,hi,rfl,HRA.out,z4 W k H4.out.cod hbase hk,z5 w k rfl H4.out.gr⟩)
      | (obtain ⟨z1,z2,z3,z4,z5⟩:=put_two2 (B:=w.heap.size) (x:=lo) (y:=hi) H4.out.R H4.out.S (by omega) (by omega) (by omega)
         refine ret_ad2 (g1:=w.heap.size) (g2:=w.heap.size+1) (x:=lo) (y:=hi) rfl rfl rfl rfl z1 z2 ?_
         exact ⟨lo,hi,rfl,HRA.out,z4 W k H4.out.cod hbase hk,z5 w k rfl H4.out.gr⟩)
      | fail
  · go_upto_region 8 with (first
      | (go_at_call 95;(with_reducible refine (HAD.out _ H1.out.cod).mono ?_);rintro e w2 ⟨a,rfl,hda,hc,hg⟩;have HDA:=hidden hda;have H2:=hidden (H1.out.grown hk hc hg);clear hda hc hg H1)
      | (go_at_call 95;(with_reducible refine (HAD.out _ H2.out.cod).mono ?_);rintro e w3 ⟨b,rfl,hdb,hc,hg⟩;have HDB:=hidden hdb;have H3:=hidden (((H2.out.grown hk hc hg).alloc (.cells #[.int .i64 a.f,.int .u64 a.h,.int .u64 a.l] 120)).alloc (.cells #[.int .i64 b.f,.int .u64 b.h,.int .u64 b.l] 120));have hs3:=(H2.out.grown hk hc hg).S.lt;clear hdb hc hg H2)
      | fail)
    obtain ⟨p0,p1,p2,pf⟩:=H3.out.R
    obtain ⟨s0,s1,s2,sf⟩:=H3.out.S
    have hsw:(b.h<a.h∧True)∨(¬ b.h<a.h∧(a.h == b.h)=true∧b.l<a.l)∨(¬ b.h<a.h∧(a.h == b.h)=true∧¬ b.l<a.l)∨(¬ b.h<a.h∧(a.h == b.h)=false):=by simp;omega
    rcases hsw with ⟨q1,-⟩ | ⟨q1,q2,q3⟩ | ⟨q1,q2,q3⟩ | ⟨q1,q2⟩
    · have HRA:=hidden (RangeA.mk HDB.out HDA.out (key_fam HDB.out HDA.out (by omega)))
      go_upto_region 9 with fail
      go_region
      all_goals go_wp2_with fail
      all_goals first
        | (obtain ⟨z1,z2,z3,z4,z5⟩:=put_two1 (B:=w.heap.size) (x:=b) (y:=a) H3.out.R H3.out.S (by omega) (by omega) (by omega)
           refine ret_ad2 (g1:=w.heap.size) (g2:=w.heap.size+1) (x:=b) (y:=a) rfl rfl rfl rfl z1 z2 ?_
           exact ⟨b,a,rfl,HRA.out,z4 W k H3.out.cod hbase hk,z5 w k rfl H3.out.gr⟩)
        | (obtain ⟨z1,z2,z3,z4,z5⟩:=put_two2 (B:=w.heap.size) (x:=b) (y:=a) H3.out.R H3.out.S (by omega) (by omega) (by omega)
           refine ret_ad2 (g1:=w.heap.size) (g2:=w.heap.size+1) (x:=b) (y:=a) rfl rfl rfl rfl z1 z2 ?_
           exact ⟨b,a,rfl,HRA.out,z4 W k H3.out.cod hbase hk,z5 w k rfl H3.out.gr⟩)
        | fail
    · have HRA:=hidden (RangeA.mk HDB.out HDA.out (key_fam HDB.out HDA.out (by simp at q2;omega)))
      go_upto_region 9 with fail
      go_region
      all_goals go_wp2_with fail
      all_goals first
        | (obtain ⟨z1,z2,z3,z4,z5⟩:=put_two1 (B:=w.heap.size) (x:=b) (y:=a) H3.out.R H3.out.S (by omega) (by omega) (by omega)
           refine ret_ad2 (g1:=w.heap.size) (g2:=w.heap.size+1) (x:=b) (y:=a) rfl rfl rfl rfl z1 z2 ?_
           exact ⟨b,a,rfl,HRA.out,z4 W k H3.out.cod hbase hk,z5 w k rfl H3.out.gr⟩)
        | (obtain ⟨z1,z2,z3,z4,z5⟩:=put_two2 (B:=w.heap.size) (x:=b) (y:=a) H3.out.R H3.out.S (by omega) (by omega) (by omega)
           refine ret_ad2 (g1:=w.heap.size) (g2:=w.heap.size+1) (x:=b) (y:=a) rfl rfl rfl rfl z1 z2 ?_
           exact ⟨b,a,rfl,HRA.out,z4 W k H3.out.cod hbase hk,z5 w k rfl H3.out.gr⟩)
        | fail
    · have HRA:=hidden (RangeA.mk HDA.out HDB.out (key_fam HDA.out HDB.out (by simp at q2;omega)))
      go_upto_region 10 with fail
      go_region
      all_goals go_wp2_with fail
      all_goals first
        | (obtain ⟨z1,z2,z3,z4,z5⟩:=put_two1 (B:=w.heap.size) (x:=a) (y:=b) H3.out.R H3.out.S (by omega) (by omega) (by omega)
           refine ret_ad2 (g1:=w.heap.size) (g2:=w.heap.size+1) (x:=a) (y:=b) rfl rfl rfl rfl z1 z2 ?_
           exact ⟨a,b,rfl,HRA.out,z4 W k H3.out.cod hbase hk,z5 w k rfl H3.out.gr⟩)
        | (obtain ⟨z1,z2,z3,z4,z5⟩:=put_two2 (B:=w.heap.size) (x:=a) (y:=b) H3.out.R H3.out.S (by omega) (by omega) (by omega)
           refine ret_ad2 (g1:=w.heap.size) (g2:=w.heap.size+1) (x:=a) (y:=b) rfl rfl rfl rfl z1 z2 ?_
           exact ⟨a,b,rfl,HRA.out,z4 W k H3.out.cod hbase hk,z5 w k rfl H3.out.gr⟩)
        | fail
    · have HRA:=hidden (RangeA.mk HDA.out HDB.out (key_fam HDA.out HDB.out (by simp at q2;omega)))
      go_upto_region 10 with fail
      go_region
      all_goals go_wp2_with fail
      all_goals first
        | (obtain ⟨z1,z2,z3,z4,z5⟩:=put_two1 (B:=w.heap.size) (x:=a) (y:=b) H3.out.R H3.out.S (by omega) (by omega) (by omega)
           refine ret_ad2 (g1:=w.heap.size) (g2:=w.heap.size+1) (x:=a) (y:=b) rfl rfl rfl rfl z1 z2 ?_
           exact ⟨a,b,rfl,HRA.out,z4 W k H3.out.cod hbase hk,z5 w k rfl H3.out.gr⟩)
        | (obtain ⟨z1,z2,z3,z4,z5⟩:=put_two2 (B:=w.heap.size) (x:=a) (y:=b) H3.out.R H3.out.S (by omega) (by omega) (by omega)
           refine ret_ad2 (g1:=w.heap.size) (g2:=w.heap.size+1) (x:=a) (y:=b) rfl rfl rfl rfl z1 z2 ?_
           exact ⟨a,b,rfl,HRA.out,z4 W k H3.out.cod hbase hk,z5 w k rfl H3.out.gr⟩)
        | fail
end Go.Proofs.YtgpigjoonhghhaaGreat

namespace Go.Proofs.YtgpigjoonhghhaaGreat
open Go.RowKit
set_option linter.unusedVariables false
set_option maxHeartbeats 400000 in
theorem isSpi_any (p:Int) (n:Nat) (w:World) (b:Bool) (hb:b=true↔(p=1∧(n=0∨n=8))∨(p≠1∧n=4)) :
    Calls Tryz.prog 127 #[.int .i64 p,.int .i64 n] w fun e w'=>e=.returned (.bool b)∧w=w':=by
  by_cases h1:p=1
  · subst h1
    by_cases h0:n=0
    · subst h0
      obtain rfl:b=true:=by simpa using hb
      clear hb
      go_enter Tryz.func127,Tryz.ntmps127
      go_wp2
      go_ret
      exact ⟨rfl,rfl⟩
    · have hb':b=((n:Int) == 8):=by
        rw [Bool.eq_iff_iff,hb]
        simp [h0]
        omega
      have h0':((n:Int) == 0)=false:=by simpa using h0
      clear hb
      go_enter Tryz.func127,Tryz.ntmps127
      go_wp2
      go_ret
      exact ⟨by rw [hb'];rfl,rfl⟩
  · have h1':(p == 1)=false:=by simpa using h1
    have hb':b=((n:Int) == 4):=by
      rw [Bool.eq_iff_iff,hb]
      simp [h1]
      omega
    clear hb
    go_enter Tryz.func127,Tryz.ntmps127
    go_wp2
    go_ret
    exact ⟨by rw [hb'];rfl,rfl⟩
set_option maxHeartbeats 400000 in
theorem inRange_no (t i k:Int) (w:World) (h:t<1∨5<t∨i<0∨65535<i∨k<0∨65535<k) :
    Calls Tryz.prog 128 #[.agg #[.int .i64 t,.int .i64 i,.int .i64 k]] w fun e w'=>e=.returned (.bool false)∧Below w.heap.size w w':=by
  by_cases q1:t<1
  · have r1:¬ 1≤t:=by omega
    clear h
    go_enter Tryz.func128,Tryz.ntmps128
    go_wp2
    go_ret
    exact ⟨rfl,(Below.refl _ w).alloc (Nat.le_refl _) _⟩
  have r1:1≤t:=by omega
  by_cases q2:5<t
  · have r2:¬ t≤5:=by omega
    clear h
    go_enter Tryz.func128,Tryz.ntmps128
    go_wp2
    go_ret
    exact ⟨rfl,(Below.refl _ w).alloc (Nat.le_refl _) _⟩
  have r2:t≤5:=by omega
  by_cases q3:i<0
  · have r3:¬ 0≤i:=by omega
    clear h
    go_enter Tryz.func128,Tryz.ntmps128
    go_wp2
    go_ret
    exact ⟨rfl,(Below.refl _ w).alloc (Nat.le_refl _) _⟩
  have r3:0≤i:=by omega
  by_cases q4:65535<i
  · have r4:¬ i≤65535:=by omega
    clear h
    go_enter Tryz.func128,Tryz.ntmps128
    go_wp2
    go_ret
    exact ⟨rfl,(Below.refl _ w).alloc (Nat.le_refl _) _⟩
  have r4:i≤65535:=by omega
  by_cases q5:k<0
  · have r5:¬ 0≤k:=by omega
    clear h
    go_enter Tryz.func128,Tryz.ntmps128
    go_wp2
    go_ret
    exact ⟨rfl,(Below.refl _ w).alloc (Nat.le_refl _) _⟩
  have r5:0≤k:=by omega
  have r6:¬ k≤65535:=by omega
  clear h
  go_enter Tryz.func128,Tryz.ntmps128
  go_wp2
  go_ret
  exact ⟨by simp<;>omega,(Below.refl _ w).alloc (Nat.le_refl _) _⟩
set_option maxHeartbeats 400000 in
theorem inRange_yes (t i k:Int) (w:World) (h:¬ (t<1∨5<t∨i<0∨65535<i∨k<0∨65535<k)) :
    Calls Tryz.prog 128 #[.agg #[.int .i64 t,.int .i64 i,.int .i64 k]] w fun e w'=>e=.returned (.bool true)∧Below w.heap.size w w':=by
  have r1:1≤t:=by omega
  have r2:t≤5:=by omega
  have r3:0≤i:=by omega
  have r4:i≤65535:=by omega
  have r5:0≤k:=by omega
  have r6:k≤65535:=by omega
  clear h
  go_enter Tryz.func128,Tryz.ntmps128
  go_wp2
  go_ret
  exact ⟨by simp<;>omega,(Below.refl _ w).alloc (Nat.le_refl _) _⟩
set_option maxHeartbeats 800000 in
theorem index_any (p:Option Addr) (n c:Nat) (l:List Tr) (w:World) (h:RdG KTr DTr w p n c l) (t i k:Int) :
    Calls Tryz.prog 141 #[.slice p n c,.agg #[.int .i64 t,.int .i64 i,.int .i64 k]] w fun e w'=>∃ r:Int,e=.returned (.int .i64 r)∧(0≤r↔(⟨t,i,k⟩:Tr)∈l)∧Below w.heap.size w w':=by
  have hn:=h.le
  have HT:=hidden h
  have HTL:=hidden h.len
  clear h
  go_enter Tryz.func141,Tryz.ntmps141
  go_wp2_with fail
  go_loopw [8] (fun m wq=>∃ q:Nat,q≤n∧m=.int .i64 q∧(∀ r,r<q→l[r]?≠some ⟨t,i,k⟩)∧wq.cell? ⟨w.heap.size,0,none⟩=some (.int .i64 t)∧wq.cell? ⟨w.heap.size,1,none⟩=some (.int .i64 i)∧wq.cell? ⟨w.heap.size,2,none⟩=some (.int .i64 k)∧Below w.heap.size w wq) (fun m _=>n - (intOf m).toNat)
  case atStart=>exact ⟨0,by omega,rfl,by omega,by go_simp,by go_simp,by go_simp,(Below.refl _ w).alloc (Nat.le_refl _) _⟩
  case round =>
    obtain ⟨q,hq,rfl,hno,y0,y1,y2,hbq⟩:=hrel
    have HNO:=hidden hno
    have HBQ:=hidden hbq
    have HY0:=hidden y0
    have HY1:=hidden y1
    have HY2:=hidden y2
    clear hno hbq
    by_cases hqj:¬ q<n
    · obtain rfl:q=n:=by omega
      have hnot:(⟨t,i,k⟩:Tr) ∉ l:=by
        intro hm
        obtain ⟨r,hr,he⟩:=List.mem_iff_getElem.1 hm
        exact HNO.out r (by have:=HTL.out;omega) (by rw [List.getElem?_eq_getElem hr,he])
      have HN:=hidden hnot
      clear hnot y0 y1 y2
      go_wp2
      go_ret
      exact ⟨-1,rfl,⟨fun h=>by omega,fun h=>absurd h HN.out⟩,HBQ.out⟩
    replace hqj:q<n:=by omega
    have hqj':(q:Int)<n:=by omega
    obtain ⟨g,rfl,hc,hint⟩:=(HT.out.below HBQ.out).cell q (by rw [HTL.out];omega)
    obtain ⟨z,hz⟩ : ∃ z,l[q]'(by rw [HTL.out];omega)=z:=⟨_,rfl⟩
    rw [hz] at hc
    have HZ:=hidden hz
    obtain ⟨zt,zi,zk⟩:=z
    have z0:=hc 0 _ rfl
    have z1:=hc 1 _ rfl
    have z2:=hc 2 _ rfl
    simp only [KTr,Nat.add_zero] at z0 z1 z2
    clear hc hint hz
    have hqe:=fun w=>eql_tr w t i k zt zi zk
    by_cases heq:t=zt∧i=zi∧k=zk
    · obtain ⟨rfl,rfl,rfl⟩:=heq
      have hin:(⟨t,i,k⟩:Tr)∈l:=List.mem_iff_getElem.2 ⟨q,by have:=HTL.out;omega,HZ.out⟩
      have HIN:=hidden hin
      have hqb:(t == t && i == i && k == k)=true:=by simp
      simp only [hqb] at hqe
      clear hin hqb
      go_wp2_with fail
      go_region
      go_wp2
      go_ret
      exact ⟨q,rfl,⟨fun _=>HIN.out,fun _=>by omega⟩,HBQ.out.trans (drew_below ⟨1,rfl⟩)⟩
    · have hqb:(t == zt && i == zi && k == zk)=false:=by
        rw [Bool.eq_false_iff]
        intro hh
        simp at hh
        exact heq ⟨hh.1.1,hh.1.2,hh.2⟩
      simp only [hqb] at hqe
      clear hqb
      go_wp2_with fail
      go_region
      go_wp2
      go_roundw
      case rel =>
        refine ⟨q+1,by omega,by go_num,fun r hr=>?_,HY0.out,HY1.out,HY2.out,HBQ.out.trans (drew_below ⟨1,rfl⟩)⟩
        rcases Nat.lt_succ_iff_lt_or_eq.1 hr with hrq | hrq
        · exact HNO.out r hrq
        · subst hrq
          rw [List.getElem?_eq_getElem (by have:=HTL.out;omega),HZ.out]
          intro hh
          simp at hh
          exact heq ⟨hh.1.symm,hh.2.1.symm,hh.2.2.symm⟩
      case measure=>simp [intOf];omega
set_option maxHeartbeats 400000 in
theorem contains_any (p:Option Addr) (n c:Nat) (l:List Tr) (w:World) (h:RdG KTr DTr w p n c l) (t i k:Int) (b:Bool) (hb:b=true↔(⟨t,i,k⟩:Tr)∈l) :
    Calls Tryz.prog 129 #[.slice p n c,.agg #[.int .i64 t,.int .i64 i,.int .i64 k]] w fun e w'=>e=.returned (.bool b)∧Below w.heap.size w w':=by
  have HT:=hidden h
  have HB:=hidden hb
  clear h hb
  go_enter Tryz.func129,Tryz.ntmps129
  go_wp2_with (go_at_call 141;(with_reducible refine (index_any p n c l _ (HT.out.below ((Below.refl _ w).alloc (Nat.le_refl _) _)) t i k).mono ?_);rintro e w1 ⟨r,rfl,hr,hbel⟩)
  go_ret
  refine ⟨?_,((Below.refl _ w).alloc (Nat.le_refl _) _).trans (hbel.mono (by simp))⟩
  have e:decide ((⟨t,i,k⟩:Tr)∈l)=b:=by
    rw [Bool.eq_iff_iff,HB.out]
    simp
  rw [←e]
  rfl
end Go.Proofs.YtgpigjoonhghhaaGreat
