/-
 The law MessageSkips: for every input the call returns true, and its arguments read afterwards as they read before.
-/
import Derived.Test.YtgpigjoonhghhaaGreatQMessageSkipsWalk
import Derived.OpenShut
namespace Go.Proofs.YtgpigjoonhghhaaGreat.messageSkips
open Go.ChangeShapes Go.WideShapes Go.ChangeAt Go.RowKit
open Go.ChangeMaps (open_string shut_string)
set_option linter.unusedVariables false
theorem own:ownKnob Tryz.prog.godebug=none:=by kernel_rfl
theorem laidOut:laidOutB Tryz.prog=true:=by kernel_rfl
theorem cellsB:Tryz.prog.cellsOf 5=1:=by kernel_rfl
theorem bytesB:Tryz.prog.bytesOf 5=1:=by kernel_rfl
set_option maxHeartbeats 800000 in
set_option maxRecDepth 100000 in
theorem lifted (os:Os) (started:os.Started) (H:Type) (enc:TypeId × Value→H) :
  ReturnsInHanded {} Tryz.checked os 3 .any (Rows.messageSkipsSpec.pre6 enc Tryz.prog Tryz.f3 Rows.messageSkipsRow.domain false) (Rows.messageSkipsSpec.post enc Tryz.prog Tryz.f3 false true false false):=by
 refine returnsInHanded_of_change_sized (C:=Tryz.checked) own started (by kernel_rfl) Tryz.func3
  (ChangeSpec.witness6 (enc:=enc) (C:=Tryz.checked) false ⟨#[],#[.slice none 0 0,.int .u8 0,.int .u8 0],[]⟩ 8 (by kernel_rfl) (by kernel_rfl) (by kernel_rfl) (by kernel_rfl)) ?_
 intro W base args ds gs before hval0 hW0 _ hsz0 _
 have hW:DataW.Whole enc Tryz.prog Tryz.f3.params.toList Rows.messageSkipsSpec.vars false W args.toList ds gs before:=hW0
 have hsz:(DataW.weightsEach Tryz.prog (Tryz.f3.params.toList++Rows.messageSkipsSpec.plain.varTypes Tryz.prog) (ds++gs)).all (·≤reachBytes)=true:=hsz0
 have hval : ∀ (j:Nat) t v,Tryz.f3.params[j]?=some t→args[j]?=some v→Value.okWide Tryz.prog W .any base t v:=hval0
 clear hW0 hsz0 hval0
 have hW':=hW
 obtain ⟨p,q,hA0,hV,rfl,_,_⟩:=hW
 have hA:DataW.TrodAll enc Tryz.prog W 0 (fun _=>true) true Tryz.f3.params.toList args.toList ds p:=hA0
 clear hA0
 rw [Tryz.params3] at hA hval hsz
 obtain ⟨v0,vs0,d0,ds0,q0,r0,hargs,rfl,rfl,t0,k0⟩:=trodAll_cons hA
 obtain ⟨v1,vs1,d1,ds1,q1,r1,rfl,rfl,rfl,t1,k1⟩:=trodAll_cons k0
 obtain ⟨v2,vs2,d2,ds2,q2,r2,rfl,rfl,rfl,t2,k2⟩:=trodAll_cons k1
 obtain ⟨rfl,rfl,rfl⟩:=trodAll_nil k2
 obtain rfl:args=#[v0,v1,v2]:=by cases args;simp_all
 obtain ⟨rfl,rfl⟩:=trodVars_none hV
 simp only [List.append_nil] at hW'
 have hlt : ∀ x∈q0++q1++q2,x.block<W.heap.size:=fun x hx=>by simpa using hW'.lt x (by simpa using hx)
 have a0 : ∀ W',Below W.heap.size W W'→DataW.Trod enc Tryz.prog W' 0 (fun b=>decide (b<W.heap.size)) true 22 v0 d0 q0 :=
  fun W' hb=>Below.trod laidOut (by kernel_rfl) (of_decide_eq_true (by kernel_rfl)) t0 hb (fun x hx=>hlt x (by simp [hx]))
 obtain ⟨p0,n0,c0,xs0,rfl,h0,r0⟩:=opened Tryz.underlying22 Tryz.underlying5 cellsB bytesB 0 rfl rfl (hval 0 _ _ rfl rfl) t0 hsz
 obtain ⟨z1,rfl,rfl,rfl,w1⟩:=open_int Tryz.underlying5 (hval 1 _ _ rfl rfl) t1
 have g1:=Go.bounds_u8 w1
 obtain ⟨z2,rfl,rfl,rfl,w2⟩:=open_int Tryz.underlying5 (hval 2 _ _ rfl rfl) t2
 have g2:=Go.bounds_u8 w2
 refine (messageSkips_walk p0 n0 c0 xs0 z1 z2 W h0 r0 g1 g2).mono fun e W' ⟨he,hb⟩=>?_
 subst he
 exact ⟨_,rfl,_,_,_,[],_,[],hW',trodAll_mk1 (shut_bool Tryz.underlying4 _),(trodAll_cons_mk (a0 W' hb) (trodAll_cons_mk (shut_int Tryz.underlying5 w1) (trodAll_cons_mk (shut_int Tryz.underlying5 w2) trodAll_mk0))),rfl,hb.frame _,fun h=>by cases h⟩
theorem proved:Rows.MessageSkipsSaid :=
 OpenClaim.holds_of_wide 3 Tryz.f3 rfl rfl rfl rfl rfl rfl rfl ⟨rfl,rfl,rfl,rfl,rfl⟩ rfl rfl rfl rfl rfl (by kernel_rfl) Tryz.func3 (by kernel_rfl)
  (of_decide_eq_true (by kernel_rfl)) (by unfold Func.isWrapper;first | (rw [if_pos (by decide +kernel)];kernel_rfl) | (rw [if_neg (by decide +kernel)];exact ⟨rfl,rfl⟩))
  (fun os started H enc _=>lifted os started H enc)
end Go.Proofs.YtgpigjoonhghhaaGreat.messageSkips
