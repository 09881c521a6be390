/-
  What package payload's fixed part reads: its numbers, and a body split into the fixed part and the rest.
  The first and the last address of a prefix, as the document's own text computes them: both are valid, and the address lies between them.
  What package proposal reads of transforms one behind the other, or throws.
  What package proposal reads of the inside of a proposal, or throws.
  What package proposal reads of proposals one behind the other, or throws; and its read, which catches that.
-/
import Derived.Test.YtgpigjoonhghhaaGreatQZ1
import Derived.Test.YtgpigjoonhghhaaGreatQZ2
import Derived.Test.YtgpigjoonhghhaaGreatQZ10
import Derived.Laws.CopyOwn
import Derived.Laws.BitsLemmas
import Derived.Defers
import Derived.Recover
import Derived.Laws.Pointers
namespace Go.Proofs.YtgpigjoonhghhaaGreat
open Go.RowKit
set_option linter.unusedVariables false
set_option maxHeartbeats 400000 in
theorem cloneB_any (p:Option Addr) (n c:Nat) (xs:List Int) (w:World) (h:Byt w p n c xs) (hb:n≤140737488355328) :
    Calls Tryz.prog 106 #[.slice p n c] w fun e w'=>∃ v,e=.returned v∧Own w' w.heap.size 5 v xs∧Below w.heap.size w w':=by
  have hl:=h.len
  have q:=fun (w:World) (a:Option Addr) (n c n' c':Nat)=>Lib.run_eql_slice_nil (P:=Tryz.prog) w 135 _ a n c n' c' Tryz.underlying135
  cases p with
  | none =>
    have hn:n=0:=by
      rcases Nat.eq_zero_or_pos n with h0 | h0
      · exact h0
      · obtain ⟨b,o,h,_⟩:=h.at_ h0
        cases h
    subst hn
    obtain rfl:xs=[]:=List.eq_nil_of_length_eq_zero hl
    clear h hl
    go_enter Tryz.func106,Tryz.ntmps106
    go_wp2
    go_ret
    exact ⟨_,rfl,Own.nil _ _ _,Below.refl _ _⟩
  | some a =>
    obtain ⟨i0,hi,hz0,hz1,hz2⟩:=info_parts Tryz.infoByte
    have H:=hidden h
    clear h
    go_enter Tryz.func106,Tryz.ntmps106
    go_wp2_with (at_builtin;refine wpList_append_byt _ rfl _ _ 135 rfl w.heap.size 5 i0 (.int .u8 0) Tryz.underlying135 hi hz0 hz1 hz2 rfl _ _ rfl (Own.made w w.heap.size 5 (Nat.le_refl _)) _ _ _ _ _ rfl (H.out.alloc _) rfl ?c1 ?c2 ?_)
    case c1=>simp;omega
    case c2=>simp
    intro v w1 hown hg
    go_wp2
    go_ret
    exact ⟨v,rfl,hown,((Below.refl _ w).alloc (Nat.le_refl _) _).grown hg (by simp) (by intro k hk;simp [Value.ownBlock] at hk;omega)⟩
set_option maxHeartbeats 400000 in
theorem fnumber_any (a b c d:Int) (ha:0≤a∧a≤255) (hb:0≤b∧b≤255) (hc:0≤c∧c≤255) (hd:0≤d∧d≤255) (A K:Nat) (AI KI:Int) (hA:AI=A) (hK:KI=K) (h1:1≤K) (hin:A+K≤4) (V:Int) (hV:val (([a,b,c,d].drop A).take K)=V) (w:World) :
    Calls Tryz.prog 102 #[.agg #[.int .u8 a,.int .u8 b,.int .u8 c,.int .u8 d],   .int .i64 AI,.int .i64 KI] w fun e w'=>e=.returned (.int .i64 V)∧Below w.heap.size w w':=by
  subst hA hK
  have hF:=four_byt w a b c d 164 ha hb hc hd
  have HN:=hidden (number_yes _ 4 4 _ _ hF A K h1 (by omega) hin)
  rw [hV] at HN
  have HB:=hidden ((Below.refl w.heap.size w).alloc (Nat.le_refl _) (.cells #[.int .u8 a,.int .u8 b,.int .u8 c,.int .u8 d] 164))
  have hbd:=val_bd (([a,b,c,d].drop A).take K) (rng_take (rng_drop hF.rng _) _)
  have hlen:(([a,b,c,d].drop A).take K).length≤4:=by simp;omega
  have h8:=pow256_le hlen
  have e4:(256:Int) ^ 4=4294967296:=by decide
  rw [e4] at h8
  rw [hV] at hbd
  have hw:IntKind.i64.wrap V=V:=by rw [IntKind.wrap_i64];omega
  clear hF hbd h8 hV hlen e4
  go_enter Tryz.func102,Tryz.ntmps102
  go_wp2_with (first
    | (go_at_call 79;(with_reducible refine (HN.out).mono ?_);rintro e w' ⟨rfl,rfl⟩)
    | fail)
  go_ret
  exact ⟨rfl,HB.out⟩
def nthB (xs:List Int) (j:Nat):Int:=xs.getD j 0
def Split4 (w:World) (xs:List Int) (n:Nat) (e:Ending) (w':World):Prop :=
  Below w.heap.size w w'∧((n<4∧e=.returned (.tuple #[.agg #[.int .u8 0,.int .u8 0,.int .u8 0,.int .u8 0],.slice none 0 0,.int .i64 1])) ∨
    (4≤n∧∃ q d,e=.returned (.tuple #[.agg #[.int .u8 (nthB xs 0),.int .u8 (nthB xs 1),.int .u8 (nthB xs 2),.int .u8 (nthB xs 3)],.slice q (n - 4) d,.int .i64 0])∧Frs w' w.heap.size q (n - 4) d (xs.drop 4)))
theorem ret_f4 {fn:Func} {R:Ending→World→Prop} {act:Act} {w:World} {p s t:Nat} {g:Nat} {a b c d:Int} {u v:Value} (h:fn.results=#[.cell p 164,.tmp s,.tmp t]) (hp:act.tmps.getD p undef=.pointer (some ⟨g,0,none⟩)) (hs:act.tmps.getD s undef=u) (ht:act.tmps.getD t undef=v) (hd:act.defers=[])
    (c0:w.cell? ⟨g,0,none⟩=some (.int .u8 a)) (c1:w.cell? ⟨g,1,none⟩=some (.int .u8 b)) (c2:w.cell? ⟨g,2,none⟩=some (.int .u8 c)) (c3:w.cell? ⟨g,3,none⟩=some (.int .u8 d))
    (hR:R (.returned (.tuple #[.agg #[.int .u8 a,.int .u8 b,.int .u8 c,.int .u8 d],u,v])) w):bodyPost Tryz.prog fn R .ret act w:=by
  refine bodyPost_ret (v:=.tuple #[.agg #[.int .u8 a,.int .u8 b,.int .u8 c,.int .u8 d],u,v]) ?_ hd hR
  rw [Array.getD_eq_getD_getElem?] at hp hs ht
  have hl:(loadVar 164 ⟨g,0,none⟩).run Tryz.prog w=.ok (.agg #[.int .u8 a,.int .u8 b,.int .u8 c,.int .u8 d]) w:=by simp [loadVar,go_sem,c0,c1,c2,c3,Result.andThen]
  simp [results,h,hp,hs,ht,asAddr,hl]
theorem wpList_copy4 {P:Program} {w:World} {ops:Array Oper} {rest:List Oper} {o:Oper} {a:Act} {Q:Exit→Act→World→Prop} (hgd:o.guard=none) (d s:Operand) (dT sT:TypeId)
    (ho:o.op=.call { callee:=.builtin .copy,args:=#[d,s],argTypes:=#[dT,sT] }) (elem:TypeId) (hu:P.underlying dT=some (.slice elem)) (hsz:(P.info? elem).map (·.size)=some 1)
    (g:Nat) (hd:a.eval d=.slice (some ⟨g,0,none⟩) 4 4) (y0 y1 y2 y3:Int) (t:TypeId) (hg:w.heap[g]?=some (.cells #[.int .u8 y0,.int .u8 y1,.int .u8 y2,.int .u8 y3] t (0,0)))
    (p:Option Addr) (n c:Nat) (xs:List Int) (hs:a.eval s=.slice p n c) (hx:Byt w p n c xs) (N:Nat) (hN:Nat.min n 4=N)
    (h : ∀ w',w.grownBy w' (some g)→(4≤n→∀ j,j<4→w'.cell? ⟨g,j,none⟩=some (.int .u8 (nthB xs j)))→(∀ j,w'.frozen? ⟨g,j,none⟩=false)→wpList P ops Q rest (a.put o.dst (goInt N)) w'):wpList P ops Q (o :: rest) a w:=by
  have hl:=hx.len
  have hfz : ∀ (w':World) (cs:Array Value),w'.heap[g]?=some (.cells cs t (0,0))→∀ j,w'.frozen? ⟨g,j,none⟩=false:=fun w' cs hh j=>by
    simp [World.frozen?,hh]
  rcases Nat.eq_zero_or_pos n with h0 | h0
  · subst h0
    obtain rfl:N=0:=by rw [←hN];simp
    refine wpList_copy_nothing hgd d s dT sT ho elem hu hsz _ _ _ _ _ _ hd hs (by simp) (h w (grown_refl w _) (fun h=>by omega) (hfz w _ hg))
  · obtain ⟨b,off,rfl,hc⟩:=hx.at_ h0
    have hcl:((xs.take 4).map (Value.int .u8)).length=Nat.min n 4:=by rw [List.length_map,List.length_take,hl];exact Nat.min_comm 4 n
    refine wpList_copy_own hgd d s dT sT ho elem hu hsz g 0 4 4 ⟨b,off,none⟩ n c hd hs _ t hg ((xs.take 4).map (Value.int .u8)) hcl (fun j v hj=>?_) (by have:=Nat.min_le_right n 4;rw [hcl];simpa using this) (u8_one _) ?_
    · have hj4:j<4∧j<n:=by
        have:=(List.getElem?_eq_some_iff.1 hj).1
        rw [hcl] at this
        exact ⟨Nat.lt_of_lt_of_le this (Nat.min_le_right n 4),Nat.lt_of_lt_of_le this (Nat.min_le_left n 4)⟩
      rw [WideShapes.add_plain,hc j hj4.2]
      rw [List.getElem?_map,List.getElem?_take_of_lt hj4.1,List.getElem?_eq_getElem (by omega)] at hj
      rw [List.getD_eq_getElem?_getD,List.getElem?_eq_getElem (by omega)]
      simpa using hj
    · rw [hcl,hN]
      obtain ⟨cs,hcs⟩ : ∃ cs,(#[Value.int IntKind.u8 y0,.int .u8 y1,.int .u8 y2,.int .u8 y3].toList.take 0++((xs.take 4).map (Value.int .u8)++#[Value.int IntKind.u8 y0,.int .u8 y1,.int .u8 y2,.int .u8 y3].toList.drop (0+N))).toArray=cs:=⟨_,rfl⟩
      rw [hcs]
      have hh:(w.setRow g cs).heap[g]?=some (.cells cs t (0,0)):=setRow_heap w g _ cs t _ hg
      refine h _ ⟨rfl,rfl,rfl,by simp,fun k hk hne=>setRow_other w g k _ (fun e=>hne (by rw [e]))⟩ (fun h4 j hj=>?_) (hfz _ _ hh)
      have hN4:N=4:=by rw [←hN];exact Nat.min_eq_right h4
      subst hN4
      have e1:cs[j]?=some (.int .u8 (nthB xs j)):=by
        unfold nthB
        rw [←hcs]
        simp only [List.take_zero,List.nil_append,List.getElem?_toArray]
        rw [List.getElem?_append_left (by rw [hcl,hN];exact hj),List.getElem?_map,List.getElem?_take_of_lt hj,List.getD_eq_getElem?_getD,List.getElem?_eq_getElem (by omega)]
        rfl
      simp [World.cell?,hh,e1]
set_option maxHeartbeats 800000 in
set_option maxRecDepth 100000 in
theorem split_any (p:Option Addr) (n c:Nat) (xs:List Int) (w:World) (h:Byt w p n c xs) (hb:n≤140737488355328) :
    Calls Tryz.prog 101 #[.slice p n c] w (Split4 w xs n):=by
  have H:=hidden h
  have hn:=h.le
  obtain ⟨N,hN⟩ : ∃ N,Nat.min n 4=N:=⟨_,rfl⟩
  have HY:=hidden ((h.alloc (.cells #[.int .u8 0,.int .u8 0,.int .u8 0,.int .u8 0] 164)).alloc (.cells #[.int .u8 0,.int .u8 0,.int .u8 0,.int .u8 0] 164))
  have HB:=hidden (((Below.refl w.heap.size w).alloc (Nat.le_refl _) (.cells #[.int .u8 0,.int .u8 0,.int .u8 0,.int .u8 0] 164)).alloc (by simp) (.cells #[.int .u8 0,.int .u8 0,.int .u8 0,.int .u8 0] 164))
  clear h
  go_enter Tryz.func101,Tryz.ntmps101
  go_wp2_with (first
    | (go_loud (refine wpList_copy4 rfl (.tmp 6) (.tmp 7) 22 135 rfl 5 Tryz.underlying22 Tryz.sizeByte (w.heap.size+1) rfl 0 0 0 0 164 ?_ _ _ _ xs rfl HY.out N hN ?_))
    | fail)
  · have:=heap_alloc_new (w.alloc (.cells #[.int .u8 0,.int .u8 0,.int .u8 0,.int .u8 0] 164)) (.cells #[.int .u8 0,.int .u8 0,.int .u8 0,.int .u8 0] 164)
    simpa using this
  · intro w1 hg hc hf
    have HB1:=hidden (HB.out.grown hg HB.out.size (fun j hj=>by cases hj;omega))
    have HC:=hidden hc
    have r0:=hg.cell (show ((w.alloc (.cells #[.int .u8 0,.int .u8 0,.int .u8 0,.int .u8 0] 164)).alloc (.cells #[.int .u8 0,.int .u8 0,.int .u8 0,.int .u8 0] 164)).cell? ⟨w.heap.size,0,none⟩=some (.int .u8 0) by go_simp) (by simp)
    have r1:=hg.cell (show ((w.alloc (.cells #[.int .u8 0,.int .u8 0,.int .u8 0,.int .u8 0] 164)).alloc (.cells #[.int .u8 0,.int .u8 0,.int .u8 0,.int .u8 0] 164)).cell? ⟨w.heap.size,1,none⟩=some (.int .u8 0) by go_simp) (by simp)
    have r2:=hg.cell (show ((w.alloc (.cells #[.int .u8 0,.int .u8 0,.int .u8 0,.int .u8 0] 164)).alloc (.cells #[.int .u8 0,.int .u8 0,.int .u8 0,.int .u8 0] 164)).cell? ⟨w.heap.size,2,none⟩=some (.int .u8 0) by go_simp) (by simp)
    have r3:=hg.cell (show ((w.alloc (.cells #[.int .u8 0,.int .u8 0,.int .u8 0,.int .u8 0] 164)).alloc (.cells #[.int .u8 0,.int .u8 0,.int .u8 0,.int .u8 0] 164)).cell? ⟨w.heap.size,3,none⟩=some (.int .u8 0) by go_simp) (by simp)
    have rf : ∀ j,w1.frozen? ⟨w.heap.size,j,none⟩=false:=fun j=>(World.frozen?_of_block (a:=⟨w.heap.size,j,none⟩) (hg.block w.heap.size (by simp;omega) (by simp))).trans (by go_simp)
    clear hg hc
    by_cases h4:n<4
    · obtain rfl:N=n:=by rw [←hN];exact Nat.min_eq_left (by omega)
      clear hN hf
      go_wp2_with fail
      refine ret_f4 (g:=w.heap.size) (a:=0) (b:=0) (c:=0) (d:=0) rfl rfl rfl rfl rfl (by go_simp) (by go_simp) (by go_simp) (by go_simp) ?_
      exact ⟨(((HB1.out.setCell (p:=⟨w.heap.size,0,none⟩) (Nat.le_refl _) _).setCell (p:=⟨w.heap.size,1,none⟩) (Nat.le_refl _) _).setCell (p:=⟨w.heap.size,2,none⟩) (Nat.le_refl _) _).setCell (p:=⟨w.heap.size,3,none⟩) (Nat.le_refl _) _,Or.inl ⟨h4,rfl⟩⟩
    · obtain rfl:N=4:=by rw [←hN];exact Nat.min_eq_right (by omega)
      have hpart:=H.out.part 4 n (by omega) (Nat.le_refl _)
      rw [List.take_of_length_le (by rw [H.out.len];exact Nat.le_refl _)] at hpart
      obtain ⟨c0,c1,c2,c3⟩:w1.cell? ⟨w.heap.size+1,0,none⟩=some (.int .u8 (nthB xs 0))∧w1.cell? ⟨w.heap.size+1,1,none⟩=some (.int .u8 (nthB xs 1))∧w1.cell? ⟨w.heap.size+1,2,none⟩=some (.int .u8 (nthB xs 2))∧w1.cell? ⟨w.heap.size+1,3,none⟩=some (.int .u8 (nthB xs 3)) :=
        ⟨HC.out (by omega) 0 (by omega),HC.out (by omega) 1 (by omega),HC.out (by omega) 2 (by omega),HC.out (by omega) 3 (by omega)⟩
      have HR:=hidden (fun wx (hb:Below w1.heap.size w1 wx)=>And.intro (cell_below hb _ _ r0) (And.intro (cell_below hb _ _ r1) (And.intro (cell_below hb _ _ r2) (And.intro (cell_below hb _ _ r3) (fun j=>(World.frozen?_of_block (a:=⟨w.heap.size,j,none⟩) (hb.block w.heap.size (World.block_lt_of_cell? w1 _ r0))).trans (rf j))))))
      have HK:=hidden (fun wx (hb:Below w1.heap.size w1 wx)=>And.intro (cell_below hb _ _ c0) (And.intro (cell_below hb _ _ c1) (And.intro (cell_below hb _ _ c2) (cell_below hb _ _ c3))))
      obtain ⟨bb,oo,rfl,-⟩:=H.out.at_ (by omega)
      have hrl:=H.out.len
      have hcap:=H.out.cap
      have hrng:=rng_drop H.out.rng 4
      have hdl:(xs.drop 4).length=n - 4:=by rw [List.length_drop,hrl]
      have HD:=hidden hdl
      have HG:=hidden hrng
      have hbig:=H.out.big
      unfold maxLen at hbig
      have hn4:(4:Int)≤n:=by omega
      have hnc:(n:Int)≤c:=by omega
      have HP1:=hidden hpart
      clear hpart hrl hdl hrng hN H HC HY hf
      have hcc:(c=4∧n=4)∨c≠4:=by omega
      go_wp2_with fail
      have HBD:=hidden (show Below w1.heap.size w1 w1.drew from drew_below ⟨1,rfl⟩)
      rcases hcc with ⟨rfl,rfl⟩ | hcc
      all_goals
        first | (rw [if_pos rfl,Nat.sub_self] at HP1) | (rw [if_neg hcc,Option.map_some,WideShapes.add_plain] at HP1)
        have HPD:=hidden ((HP1.out.below HB1.out).below HBD.out)
        go_region_held3 (fun w'=>w'.cell? ⟨w.heap.size+1,0,none⟩=some (.int .u8 (nthB xs 0))∧w'.cell? ⟨w.heap.size+1,1,none⟩=some (.int .u8 (nthB xs 1))∧w'.cell? ⟨w.heap.size+1,2,none⟩=some (.int .u8 (nthB xs 2))∧w'.cell? ⟨w.heap.size+1,3,none⟩=some (.int .u8 (nthB xs 3))) (first | exact HK.out _ HBD.out | exact HK.out _ (HBD.out.trans hbc) | go_keep)
          (first
          | (go_at_call 106;(with_reducible refine (cloneB_any _ _ _ _ _ HPD.out (by omega)).mono ?_);rintro e w2 ⟨v2,rfl,ho,hbc⟩;have HO2:=hidden ho;obtain ⟨z0,z1,z2,z3,zf⟩:=HR.out _ (HBD.out.trans hbc);clear r0 r1 r2 r3 rf)
          | fail)
        all_goals
          have hs1:=HB1.out.size
          have hks:w.heap.size<w1.drew.heap.size:=World.block_lt_of_cell? w1 _ c0 |> fun h=>by simp at h ⊢;omega
          obtain ⟨q2,d2,rfl,hf2⟩:=HO2.out.frs HD.out HG.out
          have hB2:=HB1.out.trans ((HBD.out.trans hbc).mono HB1.out.size)
          have hF:=((((hf2.low (grown_set w2 w.heap.size 0 (.int .u8 (nthB xs 0))) hks).low (grown_set _ w.heap.size 1 (.int .u8 (nthB xs 1))) hks).low (grown_set _ w.heap.size 2 (.int .u8 (nthB xs 2))) hks).low (grown_set _ w.heap.size 3 (.int .u8 (nthB xs 3))) hks).mono (by omega:w.heap.size≤w1.drew.heap.size)
          have hB:=(((hB2.setCell (p:=⟨w.heap.size,0,none⟩) (Nat.le_refl _) (.int .u8 (nthB xs 0))).setCell (p:=⟨w.heap.size,1,none⟩) (Nat.le_refl _) (.int .u8 (nthB xs 1))).setCell (p:=⟨w.heap.size,2,none⟩) (Nat.le_refl _) (.int .u8 (nthB xs 2))).setCell (p:=⟨w.heap.size,3,none⟩) (Nat.le_refl _) (.int .u8 (nthB xs 3))
          have HF:=hidden hF
          have HBB:=hidden hB
          clear ho hbc HO2 hf2 hB2 hF hB
          go_wp2
          refine ret_f4 (g:=w.heap.size) (a:=nthB xs 0) (b:=nthB xs 1) (c:=nthB xs 2) (d:=nthB xs 3) rfl rfl rfl rfl rfl (by go_simp) (by go_simp) (by go_simp) (by go_simp) ?_
          exact ⟨HBB.out,Or.inr ⟨by omega,q2,d2,rfl,HF.out⟩⟩
end Go.Proofs.YtgpigjoonhghhaaGreat

namespace Go.Proofs.YtgpigjoonhghhaaGreat
open Go.RowKit
set_option linter.unusedVariables false
theorem andNot_le (x y:Int) (h0:0≤x) (h1:x≤18446744073709551615):bits .andNot .u64 x y≤x:=by
  obtain ⟨a,rfl⟩:=Int.eq_ofNat_of_zero_le h0
  have h2:(BitVec.ofInt 64 (a:Int)).toNat=a:=by
    rw [BitVec.ofInt_natCast,BitVec.toNat_ofNat];exact Nat.mod_eq_of_lt (by omega)
  show IntKind.u64.wrap ((BitVec.ofInt 64 (a:Int) &&& ~~~(BitVec.ofInt 64 y)).toNat:Int)≤_
  rw [BitVec.toNat_and,h2,IntKind.wrap_u64]
  have:=Nat.and_le_left (n:=a) (m:=(~~~(BitVec.ofInt 64 y)).toNat)
  omega
theorem or_ge (x y:Int) (h0:0≤x) (h1:x≤18446744073709551615):x≤bits .or .u64 x y:=by
  obtain ⟨a,rfl⟩:=Int.eq_ofNat_of_zero_le h0
  have h2:(BitVec.ofInt 64 (a:Int)).toNat=a:=by
    rw [BitVec.ofInt_natCast,BitVec.toNat_ofNat];exact Nat.mod_eq_of_lt (by omega)
  show _≤IntKind.u64.wrap ((BitVec.ofInt 64 (a:Int) ||| BitVec.ofInt 64 y).toNat:Int)
  have h3:=(BitVec.ofInt 64 (a:Int) ||| BitVec.ofInt 64 y).isLt
  rw [BitVec.toNat_or,h2] at h3
  rw [BitVec.toNat_or,h2]
  have h4:=Nat.left_le_or (n:=a) (m:=(BitVec.ofInt 64 y).toNat)
  rw [IntKind.wrap_u64]
  omega
theorem or_lt32 (x y:Int) (h0:0≤x) (h1:x≤4294967295) (h2:0≤y) (h3:y≤4294967295):bits .or .u64 x y≤4294967295:=by
  obtain ⟨a,rfl⟩:=Int.eq_ofNat_of_zero_le h0
  obtain ⟨b,rfl⟩:=Int.eq_ofNat_of_zero_le h2
  rw [(bits_nat .u64 64 (by decide) (fun n h4 h5=>by rw [IntKind.wrap_u64];omega) a b (by omega) (by omega)).2]
  have:=Nat.or_lt_two_pow (x:=a) (y:=b) (n:=32) (by omega) (by omega)
  omega
structure PreA (a lo hi:Ad):Prop where
  f1:lo.f=a.f
  f2:hi.f=a.f
  h1:0≤lo.h∧lo.h≤a.h
  h2:a.h≤hi.h∧hi.h≤18446744073709551615
  l1:0≤lo.l∧lo.l≤a.l
  l2:a.l≤hi.l∧hi.l≤18446744073709551615
  four:a.f=4→hi.h=0∧hi.l≤4294967295
def bitsF (f:Int):Nat:=if f=4 then 32 else 128
theorem rbits_any (f:Int) (w:World):Calls Tryz.prog 112 #[.int .i64 f] w fun e w'=>e=.returned (.int .i64 (bitsF f))∧w=w':=by
  unfold bitsF
  by_cases h:f=4
  · subst h
    go_enter Tryz.func112,Tryz.ntmps112
    go_wp2
    go_ret
    exact ⟨rfl,rfl⟩
  · have h':(f == 4)=false:=by simpa using h
    rw [if_neg h]
    go_enter Tryz.func112,Tryz.ntmps112
    go_wp2
    go_ret
    exact ⟨rfl,rfl⟩
structure PF (W w:World) (a:Ad) (g1 g2:Nat) (lo hi:Ad):Prop where
  bel:Below W.heap.size W w
  A:AdIn w W.heap.size a
  R:AdIn w (W.heap.size+1) zeroA
  S:AdIn w (W.heap.size+1+1) zeroA
  ge1:W.heap.size+1+1<g1
  ge2:W.heap.size+1+1<g2
  ne:g1≠g2
  L:AdIn w g1 lo
  H:AdIn w g2 hi
  pre:PreA a lo hi
theorem PF.below {W w w':World} {a:Ad} {g1 g2:Nat} {lo hi:Ad} (h:PF W w a g1 g2 lo hi) (hb:Below w.heap.size w w'):PF W w' a g1 g2 lo hi :=
  ⟨h.bel.trans (hb.mono h.bel.size),h.A.below hb,h.R.below hb,h.S.below hb,h.ge1,h.ge2,h.ne,h.L.below hb,h.H.below hb,h.pre⟩
theorem PreA.self {a:Ad} (fit:FitA a) (ok:validA a=true):PreA a a a:=by
  have h1:=fit.h
  have h2:=fit.l
  refine ⟨rfl,rfl,⟨by omega,by omega⟩,⟨by omega,by omega⟩,⟨by omega,by omega⟩,⟨by omega,by omega⟩,fun e=>?_⟩
  unfold validA at ok
  rw [e] at ok
  simp at ok
  omega
theorem PF.start1 {W w1:World} {a:Ad} (hb:Below W.heap.size W w1) (hA:AdIn w1 W.heap.size a) (hR:AdIn w1 (W.heap.size+1) zeroA) (hS:AdIn w1 (W.heap.size+1+1) zeroA) (fit:FitA a) (ok:validA a=true) :
    PF W ((w1.alloc (.cells #[.int .i64 a.f,.int .u64 a.h,.int .u64 a.l] 120)).alloc (.cells #[.int .i64 a.f,.int .u64 a.h,.int .u64 a.l] 120)).drew a (w1.heap.size) (w1.heap.size+1) a a:=by
  have hl:=hS.lt
  exact ⟨((hb.alloc hb.size _).alloc (by have:=hb.size;simp;omega) _).trans (drew_below ⟨1,rfl⟩),((hA.alloc _).alloc _).below (drew_below ⟨1,rfl⟩),((hR.alloc _).alloc _).below (drew_below ⟨1,rfl⟩),((hS.alloc _).alloc _).below (drew_below ⟨1,rfl⟩),by omega,by omega,by omega,((AdIn.new w1 a 120).alloc (.cells #[.int .i64 a.f,.int .u64 a.h,.int .u64 a.l] 120)).below (w':=((w1.alloc (.cells #[.int .i64 a.f,.int .u64 a.h,.int .u64 a.l] 120)).alloc (.cells #[.int .i64 a.f,.int .u64 a.h,.int .u64 a.l] 120)).drew) (drew_below ⟨1,rfl⟩),(by have:=(AdIn.new (w1.alloc (.cells #[.int .i64 a.f,.int .u64 a.h,.int .u64 a.l] 120)) a 120).below (w':=((w1.alloc (.cells #[.int .i64 a.f,.int .u64 a.h,.int .u64 a.l] 120)).alloc (.cells #[.int .i64 a.f,.int .u64 a.h,.int .u64 a.l] 120)).drew) (drew_below ⟨1,rfl⟩);simpa using this),PreA.self fit ok⟩
theorem PF.start2 {W w1:World} {a:Ad} (hb:Below W.heap.size W w1) (hA:AdIn w1 W.heap.size a) (hR:AdIn w1 (W.heap.size+1) zeroA) (hS:AdIn w1 (W.heap.size+1+1) zeroA) (fit:FitA a) (ok:validA a=true) :
    PF W ((w1.alloc (.cells #[.int .i64 a.f,.int .u64 a.h,.int .u64 a.l] 120)).alloc (.cells #[.int .i64 a.f,.int .u64 a.h,.int .u64 a.l] 120)).drew a (w1.heap.size+1) (w1.heap.size) a a:=by
  have hl:=hS.lt
  exact ⟨((hb.alloc hb.size _).alloc (by have:=hb.size;simp;omega) _).trans (drew_below ⟨1,rfl⟩),((hA.alloc _).alloc _).below (drew_below ⟨1,rfl⟩),((hR.alloc _).alloc _).below (drew_below ⟨1,rfl⟩),((hS.alloc _).alloc _).below (drew_below ⟨1,rfl⟩),by omega,by omega,by omega,(by have:=(AdIn.new (w1.alloc (.cells #[.int .i64 a.f,.int .u64 a.h,.int .u64 a.l] 120)) a 120).below (w':=((w1.alloc (.cells #[.int .i64 a.f,.int .u64 a.h,.int .u64 a.l] 120)).alloc (.cells #[.int .i64 a.f,.int .u64 a.h,.int .u64 a.l] 120)).drew) (drew_below ⟨1,rfl⟩);simpa using this),((AdIn.new w1 a 120).alloc (.cells #[.int .i64 a.f,.int .u64 a.h,.int .u64 a.l] 120)).below (w':=((w1.alloc (.cells #[.int .i64 a.f,.int .u64 a.h,.int .u64 a.l] 120)).alloc (.cells #[.int .i64 a.f,.int .u64 a.h,.int .u64 a.l] 120)).drew) (drew_below ⟨1,rfl⟩),PreA.self fit ok⟩
theorem PF.ret1 {W w:World} {a:Ad} {g1 g2:Nat} {lo hi:Ad} (h:PF W w a g1 g2 lo hi):AdIn ((((((w.setCell ⟨W.heap.size+1,0,none⟩ (.int .i64 lo.f)).setCell ⟨W.heap.size+1,1,none⟩ (.int .u64 lo.h)).setCell ⟨W.heap.size+1,2,none⟩ (.int .u64 lo.l)).setCell ⟨W.heap.size+1+1,0,none⟩ (.int .i64 hi.f)).setCell ⟨W.heap.size+1+1,1,none⟩ (.int .u64 hi.h)).setCell ⟨W.heap.size+1+1,2,none⟩ (.int .u64 hi.l)).drew (W.heap.size+1) lo∧AdIn ((((((w.setCell ⟨W.heap.size+1,0,none⟩ (.int .i64 lo.f)).setCell ⟨W.heap.size+1,1,none⟩ (.int .u64 lo.h)).setCell ⟨W.heap.size+1,2,none⟩ (.int .u64 lo.l)).setCell ⟨W.heap.size+1+1,0,none⟩ (.int .i64 hi.f)).setCell ⟨W.heap.size+1+1,1,none⟩ (.int .u64 hi.h)).setCell ⟨W.heap.size+1+1,2,none⟩ (.int .u64 hi.l)).drew (W.heap.size+1+1) hi∧Below W.heap.size W ((((((w.setCell ⟨W.heap.size+1,0,none⟩ (.int .i64 lo.f)).setCell ⟨W.heap.size+1,1,none⟩ (.int .u64 lo.h)).setCell ⟨W.heap.size+1,2,none⟩ (.int .u64 lo.l)).setCell ⟨W.heap.size+1+1,0,none⟩ (.int .i64 hi.f)).setCell ⟨W.heap.size+1+1,1,none⟩ (.int .u64 hi.h)).setCell ⟨W.heap.size+1+1,2,none⟩ (.int .u64 hi.l)).drew:=by
  refine ⟨?_,?_,((((((h.bel.setCell (p:=⟨W.heap.size+1,0,none⟩) (by simp<;>omega) _).setCell (p:=⟨W.heap.size+1,1,none⟩) (by simp<;>omega) _).setCell (p:=⟨W.heap.size+1,2,none⟩) (by simp<;>omega) _).setCell (p:=⟨W.heap.size+1+1,0,none⟩) (by simp<;>omega) _).setCell (p:=⟨W.heap.size+1+1,1,none⟩) (by simp<;>omega) _).setCell (p:=⟨W.heap.size+1+1,2,none⟩) (by simp<;>omega) _).trans (drew_below ⟨1,rfl⟩)⟩
  · obtain ⟨c0,c1,c2,fr⟩:=h.R
    exact ⟨by go_simp,by go_simp,by go_simp,fun j=>by go_simp⟩
  · obtain ⟨c0,c1,c2,fr⟩:=h.S
    exact ⟨by go_simp,by go_simp,by go_simp,fun j=>by go_simp⟩
theorem PF.ret2 {W w:World} {a:Ad} {g1 g2:Nat} {lo hi:Ad} (h:PF W w a g1 g2 lo hi):AdIn ((((((w.setCell ⟨W.heap.size+1+1,0,none⟩ (.int .i64 hi.f)).setCell ⟨W.heap.size+1+1,1,none⟩ (.int .u64 hi.h)).setCell ⟨W.heap.size+1+1,2,none⟩ (.int .u64 hi.l)).setCell ⟨W.heap.size+1,0,none⟩ (.int .i64 lo.f)).setCell ⟨W.heap.size+1,1,none⟩ (.int .u64 lo.h)).setCell ⟨W.heap.size+1,2,none⟩ (.int .u64 lo.l)).drew (W.heap.size+1) lo∧AdIn ((((((w.setCell ⟨W.heap.size+1+1,0,none⟩ (.int .i64 hi.f)).setCell ⟨W.heap.size+1+1,1,none⟩ (.int .u64 hi.h)).setCell ⟨W.heap.size+1+1,2,none⟩ (.int .u64 hi.l)).setCell ⟨W.heap.size+1,0,none⟩ (.int .i64 lo.f)).setCell ⟨W.heap.size+1,1,none⟩ (.int .u64 lo.h)).setCell ⟨W.heap.size+1,2,none⟩ (.int .u64 lo.l)).drew (W.heap.size+1+1) hi∧Below W.heap.size W ((((((w.setCell ⟨W.heap.size+1+1,0,none⟩ (.int .i64 hi.f)).setCell ⟨W.heap.size+1+1,1,none⟩ (.int .u64 hi.h)).setCell ⟨W.heap.size+1+1,2,none⟩ (.int .u64 hi.l)).setCell ⟨W.heap.size+1,0,none⟩ (.int .i64 lo.f)).setCell ⟨W.heap.size+1,1,none⟩ (.int .u64 lo.h)).setCell ⟨W.heap.size+1,2,none⟩ (.int .u64 lo.l)).drew:=by
  refine ⟨?_,?_,((((((h.bel.setCell (p:=⟨W.heap.size+1+1,0,none⟩) (by simp<;>omega) _).setCell (p:=⟨W.heap.size+1+1,1,none⟩) (by simp<;>omega) _).setCell (p:=⟨W.heap.size+1+1,2,none⟩) (by simp<;>omega) _).setCell (p:=⟨W.heap.size+1,0,none⟩) (by simp<;>omega) _).setCell (p:=⟨W.heap.size+1,1,none⟩) (by simp<;>omega) _).setCell (p:=⟨W.heap.size+1,2,none⟩) (by simp<;>omega) _).trans (drew_below ⟨1,rfl⟩)⟩
  · obtain ⟨c0,c1,c2,fr⟩:=h.R
    exact ⟨by go_simp,by go_simp,by go_simp,fun j=>by go_simp⟩
  · obtain ⟨c0,c1,c2,fr⟩:=h.S
    exact ⟨by go_simp,by go_simp,by go_simp,fun j=>by go_simp⟩
theorem PF.stepH {W w:World} {a:Ad} {g1 g2:Nat} {lo hi:Ad} (h:PF W w a g1 g2 lo hi) (fit:FitA a) (hf:a.f≠4) (X Y:Int) :
    PF W ((w.setCell ⟨g1,1,none⟩ (.int .u64 (bits .andNot .u64 lo.h X))).setCell ⟨g2,1,none⟩ (.int .u64 (bits .or .u64 hi.h Y))) a g1 g2 { lo with h:=bits .andNot .u64 lo.h X } { hi with h:=bits .or .u64 hi.h Y }:=by
  have k1:=h.ge1
  have k2:=h.ge2
  have k3:=h.ne
  have p:=h.pre
  have q1:=p.h1
  have q2:=p.h2
  have q3:=fit.h
  have r1:=andNot_le lo.h X (by omega) (by omega)
  have r2:=bits_lo_u64 .andNot lo.h X
  have r3:=or_ge hi.h Y (by omega) (by omega)
  have r4:=bits_hi_u64 .or hi.h Y
  exact ⟨(h.bel.setCell (p:=⟨g1,1,none⟩) (by simp;omega) _).setCell (p:=⟨g2,1,none⟩) (by simp;omega) _,(h.A.set_ne _ _ _ (by omega)).set_ne _ _ _ (by omega),(h.R.set_ne _ _ _ (by omega)).set_ne _ _ _ (by omega),(h.S.set_ne _ _ _ (by omega)).set_ne _ _ _ (by omega),k1,k2,k3,
    (h.L.setH _).set_ne _ _ _ k3,(h.H.set_ne _ _ _ (Ne.symm k3)).setH _,⟨p.f1,p.f2,⟨r2,by simp only;omega⟩,⟨by simp only;omega,r4⟩,p.l1,p.l2,fun e=>absurd e hf⟩⟩
theorem PF.stepL {W w:World} {a:Ad} {g1 g2:Nat} {lo hi:Ad} (h:PF W w a g1 g2 lo hi) (fit:FitA a) (X Y:Int) (hY:a.f=4→0≤Y∧Y≤4294967295) :
    PF W ((w.setCell ⟨g1,2,none⟩ (.int .u64 (bits .andNot .u64 lo.l X))).setCell ⟨g2,2,none⟩ (.int .u64 (bits .or .u64 hi.l Y))) a g1 g2 { lo with l:=bits .andNot .u64 lo.l X } { hi with l:=bits .or .u64 hi.l Y }:=by
  have k1:=h.ge1
  have k2:=h.ge2
  have k3:=h.ne
  have p:=h.pre
  have q1:=p.l1
  have q2:=p.l2
  have q3:=fit.l
  have r1:=andNot_le lo.l X (by omega) (by omega)
  have r2:=bits_lo_u64 .andNot lo.l X
  have r3:=or_ge hi.l Y (by omega) (by omega)
  have r4:=bits_hi_u64 .or hi.l Y
  exact ⟨(h.bel.setCell (p:=⟨g1,2,none⟩) (by simp;omega) _).setCell (p:=⟨g2,2,none⟩) (by simp;omega) _,(h.A.set_ne _ _ _ (by omega)).set_ne _ _ _ (by omega),(h.R.set_ne _ _ _ (by omega)).set_ne _ _ _ (by omega),(h.S.set_ne _ _ _ (by omega)).set_ne _ _ _ (by omega),k1,k2,k3,
    (h.L.setL _).set_ne _ _ _ k3,(h.H.set_ne _ _ _ (Ne.symm k3)).setL _,⟨p.f1,p.f2,p.h1,p.h2,⟨r2,by simp only;omega⟩,⟨by simp only;omega,r4⟩,fun e=>⟨(p.four e).1,or_lt32 _ _ (by omega) (p.four e).2 (hY e).1 (hY e).2⟩⟩⟩
theorem pow32 (k:Nat) (hk:k≤31):0≤IntKind.u64.wrap (2 ^ k)∧IntKind.u64.wrap (2 ^ k)≤4294967295:=by
  have h1:(2:Nat) ^ k≤2 ^ 31:=Nat.pow_le_pow_right (by decide) hk
  have h2:((2:Int) ^ k)=((2 ^ k:Nat):Int):=by simp
  rw [h2]
  generalize (2:Nat) ^ k=m at *
  rw [IntKind.wrap_u64]
  omega
theorem ret_ad3 {fn:Func} {R:Ending→World→Prop} {a:Act} {w:World} {p q u:Nat} {g1 g2:Nat} {x y:Ad} {v:Value} (h:fn.results=#[.cell p 120,.cell q 120,.tmp u]) (hp:a.tmps.getD p undef=.pointer (some ⟨g1,0,none⟩)) (hq:a.tmps.getD q undef=.pointer (some ⟨g2,0,none⟩)) (hu:a.tmps.getD u undef=v) (hd:a.defers=[])
    (hx:AdIn w g1 x) (hy:AdIn w g2 y) (hR:R (.returned (.tuple #[(.agg #[.int .i64 x.f,.int .u64 x.h,.int .u64 x.l]),(.agg #[.int .i64 y.f,.int .u64 y.h,.int .u64 y.l]),v])) w):bodyPost Tryz.prog fn R .ret a w:=by
  refine bodyPost_ret (v:=.tuple #[(.agg #[.int .i64 x.f,.int .u64 x.h,.int .u64 x.l]),(.agg #[.int .i64 y.f,.int .u64 y.h,.int .u64 y.l]),v]) ?_ hd hR
  rw [Array.getD_eq_getD_getElem?] at hp hq hu
  simp [results,h,hp,hq,hu,asAddr,load_ad hx,load_ad hy,Result.andThen]
theorem ret_ad2 {fn:Func} {R:Ending→World→Prop} {a:Act} {w:World} {p q:Nat} {g1 g2:Nat} {x y:Ad} (h:fn.results=#[.cell p 120,.cell q 120]) (hp:a.tmps.getD p undef=.pointer (some ⟨g1,0,none⟩)) (hq:a.tmps.getD q undef=.pointer (some ⟨g2,0,none⟩)) (hd:a.defers=[])
    (hx:AdIn w g1 x) (hy:AdIn w g2 y) (hR:R (.returned (.tuple #[(.agg #[.int .i64 x.f,.int .u64 x.h,.int .u64 x.l]),(.agg #[.int .i64 y.f,.int .u64 y.h,.int .u64 y.l])])) w):bodyPost Tryz.prog fn R .ret a w:=by
  refine bodyPost_ret (v:=.tuple #[(.agg #[.int .i64 x.f,.int .u64 x.h,.int .u64 x.l]),(.agg #[.int .i64 y.f,.int .u64 y.h,.int .u64 y.l])]) ?_ hd hR
  rw [Array.getD_eq_getD_getElem?] at hp hq
  simp [results,h,hp,hq,asAddr,load_ad hx,load_ad hy,Result.andThen]
set_option maxHeartbeats 1600000 in
set_option maxRecDepth 100000 in
theorem prefix_any (a:Ad) (fit:FitA a) (ok:validA a=true) (n:Int) (hn:0≤n∧n≤bitsF a.f) (w:World) :
    Calls Tryz.prog 94 #[(.agg #[.int .i64 a.f,.int .u64 a.h,.int .u64 a.l]),.int .i64 n] w fun e w'=>∃ lo hi:Ad,e=.returned (.tuple #[(.agg #[.int .i64 lo.f,.int .u64 lo.h,.int .u64 lo.l]),(.agg #[.int .i64 hi.f,.int .u64 hi.h,.int .u64 hi.l]),.int .i64 0])∧PreA a lo hi∧Below w.heap.size w w':=by
  obtain ⟨n,rfl⟩:=Int.eq_ofNat_of_zero_le hn.1
  have HV:=hidden (rvalid_any a)
  rw [ok] at HV
  have HBI:=hidden (rbits_any a.f)
  have hB:bitsF a.f≤128:=by unfold bitsF;split<;>omega
  have hB4:a.f=4→bitsF a.f=32:=fun h=>by unfold bitsF;rw [if_pos h]
  have HB4:=hidden hB4
  have hnn:n≤bitsF a.f:=by omega
  have HFIT:=hidden fit
  have HOK:=hidden ok
  generalize bitsF a.f=B at *
  clear hB4 ok fit hn
  have q0:¬ (n:Int)<0:=by omega
  have q1:¬ B<n:=by omega
  have q2:decide ((n:Int)<0)=false:=by simp
  have q3:decide (B<n)=false:=by simpa using hnn
  have hB0:=hidden (below_three (w:=w) (.cells #[.int .i64 a.f,.int .u64 a.h,.int .u64 a.l] 120) (.cells #[.int .i64 0,.int .u64 0,.int .u64 0] 120) (.cells #[.int .i64 0,.int .u64 0,.int .u64 0] 120))
  have HA0:=hidden (((AdIn.new w a 120).alloc (.cells #[.int .i64 0,.int .u64 0,.int .u64 0] 120)).alloc (.cells #[.int .i64 0,.int .u64 0,.int .u64 0] 120))
  have HR0:Hid (AdIn (((w.alloc (.cells #[.int .i64 a.f,.int .u64 a.h,.int .u64 a.l] 120)).alloc (.cells #[.int .i64 0,.int .u64 0,.int .u64 0] 120)).alloc (.cells #[.int .i64 0,.int .u64 0,.int .u64 0] 120)) (w.heap.size+1) zeroA):=hidden (by
    have:=(AdIn.new (w.alloc (.cells #[.int .i64 a.f,.int .u64 a.h,.int .u64 a.l] 120)) zeroA 120).alloc (.cells #[.int .i64 0,.int .u64 0,.int .u64 0] 120)
    simpa [zeroA] using this)
  have HS0:Hid (AdIn (((w.alloc (.cells #[.int .i64 a.f,.int .u64 a.h,.int .u64 a.l] 120)).alloc (.cells #[.int .i64 0,.int .u64 0,.int .u64 0] 120)).alloc (.cells #[.int .i64 0,.int .u64 0,.int .u64 0] 120)) (w.heap.size+1+1) zeroA):=hidden (by
    have:=(AdIn.new ((w.alloc (.cells #[.int .i64 a.f,.int .u64 a.h,.int .u64 a.l] 120)).alloc (.cells #[.int .i64 0,.int .u64 0,.int .u64 0] 120)) zeroA 120)
    simpa [zeroA] using this)
  go_enter Tryz.func94,Tryz.ntmps94
  go_upto_region 5 with (first
    | (go_at_call 75;(with_reducible refine (HV.out _).mono ?_);rintro e w1 ⟨rfl,hb⟩;have HB1:=hidden (hB0.out.trans (hb.mono hB0.out.size));have HA1:=hidden (HA0.out.below hb);have HR1:=hidden (HR0.out.below hb);have HS1:=hidden (HS0.out.below hb);obtain ⟨a0,a1,a2,af⟩:=HA1.out;clear hb HA0 HR0 HS0 hB0)
    | (go_at_call 112;(with_reducible refine (HBI.out _).mono ?_);rintro e w1 ⟨rfl,rfl⟩))
  go_cut [7,8] from 27 to 28 (fun u v wx=>∃ g1 g2,u=.pointer (some ⟨g1,0,none⟩)∧v=.pointer (some ⟨g2,0,none⟩)∧PF w wx a g1 g2 a a)
  case first =>
    have hs1:=HS1.out.lt
    have ha1:=HA1.out.lt
    go_region
    all_goals go_wp2_with fail
    all_goals go_meet
    all_goals (case rel=>first
      | exact ⟨_,_,rfl,rfl,PF.start1 HB1.out HA1.out HR1.out HS1.out HFIT.out HOK.out⟩
      | exact ⟨_,_,rfl,rfl,PF.start2 HB1.out HA1.out HR1.out HS1.out HFIT.out HOK.out⟩)
  case rest =>
    obtain ⟨g1,g2,rfl,rfl,hpf⟩:=hcut
    have HP0:=hidden hpf
    clear hpf HA1 HR1 HS1 HB1 a0 a1 a2 af
    go_wp2_with fail
    go_loopw [9] (fun i wx=>∃ (j:Nat) (lo hi:Ad),i=.int .i64 j∧j≤B∧PF w wx a g1 g2 lo hi) (fun i _=>B - (intOf i).toNat)
    case atStart=>exact ⟨n,a,a,rfl,hnn,HP0.out⟩
    case round =>
      obtain ⟨j,lo,hi,rfl,hj,hpf⟩:=hrel
      have HP:=hidden hpf
      obtain ⟨a0,a1,a2,af⟩:=hpf.A
      clear hpf HP0
      by_cases hjB:j<B
      · have hjB':(j:Int)<B:=by omega
        obtain ⟨l0,l1,l2,lf⟩:=HP.out.L
        obtain ⟨h0,h1,h2,hf⟩:=HP.out.H
        have n1:¬ g1=g2:=HP.out.ne
        have n2:¬ g2=g1:=fun e=>n1 e.symm
        go_wp2_with (go_at_call 112;(with_reducible refine (HBI.out _).mono ?_);rintro e w1 ⟨rfl,rfl⟩)
        all_goals
          go_roundw
          case rel =>
            first
              | exact ⟨j+1,_,_,by go_num,by omega,HP.out.stepH HFIT.out (fun e=>by have:=HB4.out e;omega) _ _⟩
              | exact ⟨j+1,_,_,by go_num,by omega,HP.out.stepL HFIT.out _ _ (fun e=>by have:=HB4.out e;exact pow32 _ (by omega))⟩
          case measure=>simp [intOf];omega
      · obtain rfl:j=B:=by omega
        obtain ⟨l0,l1,l2,lf⟩:=HP.out.L
        obtain ⟨h0,h1,h2,hf⟩:=HP.out.H
        obtain ⟨r0,r1,r2,rf⟩:=HP.out.R
        obtain ⟨s0,s1,s2,sf⟩:=HP.out.S
        go_wp2_with (go_at_call 112;(with_reducible refine (HBI.out _).mono ?_);rintro e w1 ⟨rfl,rfl⟩)
        have k1:=HP.out.ge1
        have k2:=HP.out.ge2
        have e1:¬ g1=w.heap.size+1:=by omega
        have e2:¬ g1=w.heap.size+1+1:=by omega
        have e3:¬ g2=w.heap.size+1:=by omega
        have e4:¬ g2=w.heap.size+1+1:=by omega
        have e5:¬ w.heap.size+1=g1:=by omega
        have e6:¬ w.heap.size+1+1=g1:=by omega
        have e7:¬ w.heap.size+1=g2:=by omega
        have e8:¬ w.heap.size+1+1=g2:=by omega
        go_region
        all_goals go_wp2_with fail
        all_goals first
          | (obtain ⟨z1,z2,z3⟩:=HP.out.ret1
             refine ret_ad3 (g1:=w.heap.size+1) (g2:=w.heap.size+1+1) (x:=lo) (y:=hi) (v:=.int .i64 0) rfl rfl rfl rfl rfl z1 z2 ?_
             exact ⟨lo,hi,rfl,HP.out.pre,z3⟩)
          | (obtain ⟨z1,z2,z3⟩:=HP.out.ret2
             refine ret_ad3 (g1:=w.heap.size+1) (g2:=w.heap.size+1+1) (x:=lo) (y:=hi) (v:=.int .i64 0) rfl rfl rfl rfl rfl z1 z2 ?_
             exact ⟨lo,hi,rfl,HP.out.pre,z3⟩)
          | fail
end Go.Proofs.YtgpigjoonhghhaaGreat

namespace Go.Proofs.YtgpigjoonhghhaaGreat
open Go.RowKit
set_option linter.unusedVariables false
theorem secV_cases (more:Int) (ys:List Int) :
    (ys.length<4∧secV more ys=none)∨(4≤ys.length∧(w2 ys 2<4∨(ys.length:Int)<w2 ys 2)∧secV more ys=none)
    ∨ (4≤ys.length∧¬ (w2 ys 2<4∨(ys.length:Int)<w2 ys 2)∧ys.getD 0 0≠(if (ys.length:Int)=w2 ys 2 then 0 else more)∧secV more ys=none)
    ∨ (4≤ys.length∧¬ (w2 ys 2<4∨(ys.length:Int)<w2 ys 2)∧ys.getD 0 0=(if (ys.length:Int)=w2 ys 2 then 0 else more)∧secV more ys=some ((ys.take (w2 ys 2).toNat).drop 4,(w2 ys 2).toNat)):=by
  unfold secV
  by_cases h1:ys.length<4
  · exact Or.inl ⟨h1,if_pos h1⟩
  by_cases h2:w2 ys 2<4∨(ys.length:Int)<w2 ys 2
  · exact Or.inr (Or.inl ⟨by omega,h2,by rw [if_neg h1,if_pos h2]⟩)
  by_cases h3:ys.getD 0 0≠(if (ys.length:Int)=w2 ys 2 then 0 else more)
  · exact Or.inr (Or.inr (Or.inl ⟨by omega,h2,h3,by rw [if_neg h1,if_neg h2,if_pos h3]⟩))
  · exact Or.inr (Or.inr (Or.inr ⟨by omega,h2,Decidable.not_not.1 h3,by rw [if_neg h1,if_neg h2,if_neg h3]⟩))
structure InS (more:Int) (ys zs:List Int) (L:Nat):Prop where
  l:w2 ys 2=L
  len:zs.length+4=L
  le:L≤ys.length
  x0:ys.getD 0 0=(if (ys.length:Int)=L then 0 else more)
  zs:zs=(ys.take L).drop 4
theorem secV_in {more:Int} {ys zs:List Int} {L:Nat} (h:secV more ys=some (zs,L)):InS more ys zs L:=by
  rcases secV_cases more ys with ⟨_,h1⟩ | ⟨_,_,h1⟩ | ⟨_,_,_,h1⟩ | ⟨h2,h3,h4,h1⟩
  · rw [h1] at h;cases h
  · rw [h1] at h;cases h
  · rw [h1] at h;cases h
  rw [h1] at h
  simp only [Option.some.injEq,Prod.mk.injEq] at h
  obtain ⟨h5,h6⟩:=h
  have h7:w2 ys 2=L:=by omega
  have h8:zs.length+4=L:=by rw [←h5,List.length_drop,List.length_take];omega
  rw [h7] at h4
  exact ⟨h7,h8,by omega,h4,by rw [←h5,h6]⟩
theorem secV_len {more:Int} {ys zs:List Int} {L:Nat} (h:secV more ys=some (zs,L)):zs.length+4=L∧L≤ys.length:=⟨(secV_in h).len,(secV_in h).le⟩
theorem getD_inside (ys:List Int) (L a:Nat) (h:4+a<L):((ys.take L).drop 4).getD a 0=ys.getD (4+a) 0:=by
  rw [getD_dropP,List.getD_eq_getElem?_getD,List.getD_eq_getElem?_getD,List.getElem?_take_of_lt h]
theorem w2_inside (ys:List Int) (L a:Nat) (h:4+a+1<L):w2 ((ys.take L).drop 4) a=w2 ys (4+a):=by
  rw [w2,getD_inside _ _ _ (by omega),getD_inside _ _ _ (by omega),w2,Nat.add_assoc]
theorem trV_attr (zs:List Int) (h:4≤zs.length):trV zs=if (attrV (zs.drop 4)).2=false then none else some ⟨zs.getD 0 0,w2 zs 2,(attrV (zs.drop 4)).1⟩:=by
  have h3:¬ zs.length<4:=by omega
  have hl:(zs.drop 4).length=zs.length - 4:=by simp
  by_cases h4:zs.length=4
  · have ha:attrV (zs.drop 4)=(0,true):=by rw [attrV,if_pos (by omega)]
    rw [ha,trV,if_neg h3,if_pos h4]
    rfl
  have h5:¬ (zs.drop 4).length=0:=by omega
  by_cases h8:zs.length≠8∨w2 zs 4≠32782∨w2 zs 6=0
  · have ha:attrV (zs.drop 4)=(0,false):=by rw [attrV,if_neg h5,if_pos];rw [w2_dropP,w2_dropP,hl];simp only [Nat.add_zero,Nat.reduceAdd];omega
    rw [ha,trV,if_neg h3,if_neg h4,if_pos h8]
    rfl
  · have ha:attrV (zs.drop 4)=(w2 zs 6,true):=by rw [attrV,if_neg h5,if_neg,w2_dropP];rw [w2_dropP,w2_dropP,hl];simp only [Nat.add_zero,Nat.reduceAdd];omega
    rw [ha,trV,if_neg h3,if_neg h4,if_neg h8]
    rfl
theorem trs_sec (ys:List Int) (h:ys.length≠0):trsV ys=match secV 3 ys with
  | none=>none
  | some x=>match trV x.1 with
    | none=>none
    | some t=>(trsV (ys.drop x.2)).map (t :: ·):=by
  rw [trsV_step ys h]
  rcases hs:secV 3 ys with _ | ⟨zs,L⟩
  · simp only
    by_cases h8:ys.length<8
    · rw [if_pos h8]
    rw [if_neg h8]
    by_cases h9:w2 ys 2<8∨(ys.length:Int)<w2 ys 2
    · rw [if_pos h9]
    rw [if_neg h9]
    rcases secV_cases 3 ys with ⟨h2,h1⟩ | ⟨_,h2,h1⟩ | ⟨_,_,h2,h1⟩ | ⟨h2,h3,h4,h1⟩
    · omega
    · omega
    · rw [if_pos (Or.inl h2)]
    · rw [h1] at hs;cases hs
  · have hi:=secV_in hs
    have h1:=hi.len
    have h2:=hi.le
    simp only
    by_cases hz:zs.length<4
    · have ht:trV zs=none:=by unfold trV;rw [if_pos hz]
      rw [ht]
      simp only
      by_cases h8:ys.length<8
      · rw [if_pos h8]
      · rw [if_neg h8,hi.l,if_pos (by omega)]
    · have e0:¬ (ys.getD 0 0≠if (ys.length:Int)=L then 0 else 3):=Decidable.not_not.2 hi.x0
      have e1:(ys.drop 8).take (L - 8)=zs.drop 4:=by
        rw [hi.zs,List.drop_drop,List.drop_take]
      have e2:zs.getD 0 0=ys.getD 4 0:=by rw [hi.zs,getD_inside _ _ _ (by omega)]
      have e3:w2 zs 2=w2 ys 6:=by rw [hi.zs,w2_inside _ _ _ (by omega)]
      rw [if_neg (by omega),hi.l,if_neg (by omega),Int.toNat_natCast,trV_attr zs (by omega),e1,e2,e3]
      by_cases ha:(attrV (zs.drop 4)).2=false
      · rw [if_pos (Or.inr ha),if_pos ha]
      · rw [if_neg (fun h=>h.elim e0 ha),if_neg ha]
def GotTs (w:World) (k:Nat) (r:Option (List Tr)) (e:Ending) (w':World):Prop :=
  w.grownBy w' (some k)∧match r with
  | none=>Thrown e
  | some l=>∃ v,e=.returned v∧RowG KTr NTr w' w.heap.size v l
theorem gotts_none {w:World} {k:Nat} {r:Option (List Tr)} {e:Ending} {w':World} (hg:w.grownBy w' (some k)) (hr:r=none) (ht:Thrown e):GotTs w k r e w':=by
  subst hr
  exact ⟨hg,ht⟩
theorem grown_own4 {a b c:World} {row row':Option Nat} (h:a.grownBy b row) (k:b.grownBy c row') (hR : ∀ r,row'=some r→a.heap.size≤r):a.grownBy c row :=
  ⟨k.os.trans h.os,k.tape.trans h.tape,k.output.trans h.output,Nat.le_trans h.size k.size,fun i hi hne=>(k.block i (Nat.lt_of_lt_of_le hi h.size) (fun e=>by have:=hR i e.symm;omega)).trans (h.block i hi hne)⟩
theorem map_none_app {α:Type} (l:List α) (o:Option (List α)) (r:Option (List α)) (h:o.map (l++·)=r) (ho:o=none):r=none:=by
  subst ho
  exact h.symm
set_option maxHeartbeats 1600000 in
set_option maxRecDepth 100000 in
theorem ptransforms_any (p:Option Addr) (n c:Nat) (xs:List Int) (w:World) (k a:Nat) (h:PS w k p n c xs a) (hn:n≤1048576) (r:Option (List Tr)) (hr:trsV (xs.drop a)=r) :
    Calls Tryz.prog 140 #[.pointer (some ⟨k,0,none⟩)] w (GotTs w k r):=by
  have HR:=hidden hr
  have HL:=hidden h.here.len
  have HRG:=hidden h.here.rng
  have HP:=hidden h
  have HK:=hidden h.lt
  clear hr h
  go_enter Tryz.func140,Tryz.ntmps140
  go_wp2_with fail
  go_loopw [3] (fun o wr=>∃ (at_:Nat) (l:List Tr),at_≤n∧l.length≤at_∧(trsV (xs.drop at_)).map (l++·)=r∧RowG KTr NTr wr w.heap.size o l∧PS wr k p n c xs at_∧w.grownBy wr (some k)) (fun _ wr=>n - (intOf ((wr.cell? ⟨k,1,none⟩).getD (.int .i64 0))).toNat)
  case atStart=>exact ⟨a,[],HP.out.le,by simp,by rw [HR.out];simp,RowG.nil _ _ _ _,HP.out,grown_refl _ _⟩
  case round =>
    obtain ⟨at_,l,hat,hl8,hres,hrow,hps,hgr⟩:=hrel
    obtain ⟨po,co,rfl⟩:=hrow.form rfl
    have HRW:=hidden hrow
    have HPS:=hidden hps
    have HGR:=hidden hgr
    have hmeas:(intOf ((wr.cell? ⟨k,1,none⟩).getD (.int .i64 0))).toNat=at_:=by rw [hps.cu.c1];simp [intOf]
    have HMS:=hidden hmeas
    clear hrow hps hgr hmeas
    obtain ⟨b,hb⟩ : ∃ b,b=decide (at_<n):=⟨_,rfl⟩
    have HB:=hidden hb
    clear hb
    go_wp2_with fail
    go_at_call 124
    (with_reducible refine (pl p n c xs _ k at_ HPS.out b HB.out).mono ?_)
    rintro e w1 ⟨rfl,hb1,hps1⟩
    by_cases hlt:¬ at_<n
    · obtain rfl:b=false:=by rw [HB.out];simpa using hlt
      have hz:(xs.drop at_).length=0:=by simp [HL.out];omega
      rw [trsV_nil _ hz] at hres
      simp at hres
      subst hres
      have HB1:=hidden hb1
      clear HR hb1
      go_wp2_with fail
      go_ret
      exact ⟨grown_trans HGR.out (grown_of_below HB1.out _),_,rfl,HRW.out.below HB1.out⟩
    · obtain rfl:b=true:=by rw [HB.out];simpa using hlt
      have hnz:(xs.drop at_).length≠0:=by simp [HL.out];omega
      have hst:=trs_sec (xs.drop at_) hnz
      have HST:=hidden hst
      have HRES:=hidden hres
      have HP1:=hidden hps1
      have HB1:=hidden hb1
      clear hst hres hps1 hb1 hnz
      obtain ⟨sv,hsv⟩ : ∃ sv,secV 3 (xs.drop at_)=sv:=⟨_,rfl⟩
      have HSV:=hidden hsv
      clear hsv
      go_wp2_with fail
      go_at_call 125
      (with_reducible refine (section_any 3 p n c xs _ k at_ HP1.out hn sv HSV.out).mono ?_)
      rintro e w2 ⟨hg2,hh⟩
      cases sv with
      | none =>
        subst hh
        refine ⟨rfl,gotts_none (grown_trans (grown_trans HGR.out (grown_of_below HB1.out _)) hg2) (map_none_app _ _ _ HRES.out ?_) rfl⟩
        rw [HST.out,HSV.out]
      | some x =>
        obtain ⟨zs,L⟩:=x
        obtain ⟨R,q,m,d,rfl,hR,hpi,hpo⟩:=hh
        simp only at hpi hpo
        have HG2:=hidden (grown_trans (grown_of_below HB1.out (some k)) hg2)
        have HPO:=hidden hpo
        have HPI:=hidden hpi
        have hR':wr.heap.size≤R:=Nat.le_trans HB1.out.size hR
        clear hg2 hpo hpi hR
        obtain ⟨tv,htv⟩ : ∃ tv,trV zs=tv:=⟨_,rfl⟩
        have HTV:=hidden htv
        clear htv
        go_wp2_with fail
        go_at_call 143
        (with_reducible refine (transform_any q m d zs _ R HPI.out tv HTV.out).mono ?_)
        rintro e w3 ⟨hg3,hh⟩
        cases tv with
        | none =>
          subst hh
          refine ⟨rfl,gotts_none (grown_trans HGR.out (grown_new HG2.out hg3 hR')) (map_none_app _ _ _ HRES.out ?_) rfl⟩
          rw [HST.out,HSV.out]
          simp only
          rw [HTV.out]
        | some t =>
          obtain ⟨rfl,hint⟩:=hh
          have hg4:=grown_new HG2.out hg3 hR'
          have HRW4:=hidden (HRW.out.low hg4 HK.out)
          have HPO4:=hidden (HPO.out.off hg3 (fun r hr=>by cases hr;have:=HPO.out.lt;have:=HPS.out.lt;omega))
          have HG4:=hidden (grown_trans HGR.out hg4)
          have HI:=hidden hint
          have hlen:=secV_len HSV.out
          rw [List.length_drop,HL.out] at hlen
          have hnext:(trsV (xs.drop (at_+L))).map ((l++[t])++·)=r:=by
            rw [←HRES.out,HST.out,HSV.out]
            simp only
            rw [HTV.out]
            simp only [Option.map_map,List.drop_drop]
            congr 1
            funext z
            simp
          have HNX:=hidden hnext
          clear hg3 hg4 hint hnext HRES HST HRW HPS HGR HPO HG2 HP1 HB1 HPI
          go_wp2_with (at_builtin;go_loud (refine wpList_append_g knownTr (by simp [NTr]) _ rfl _ _ rfl w.heap.size _ l rfl (HRW4.out.alloc _) _ 1 1 [t] rfl (srcTr w3 t.t t.i t.k _) (fun x hx=>by rw [List.mem_singleton.1 hx];exact HI.out) ?b1 ?b2 ?b3 ?_))
          case b1=>unfold maxLen;omega
          case b2=>omega
          case b3=>have:=HG4.out.size;simp;omega
          intro v4 w4 hrow4 hg4
          have hk4 : ∀ r,(Value.slice po l.length co).ownBlock=some r→w.heap.size≤r:=fun r hr=>(HRW4.out.lt r hr).1
          have HRW5:=hidden hrow4
          have HPS5:=hidden ((HPO4.out.below ((Below.refl _ _).alloc (Nat.le_refl _) _)).off hg4 (fun r hr=>by have:=hk4 r hr;have:=HK.out;omega))
          have HG5:=hidden (grown_own4 (grown_alloc_new HG4.out _) hg4 hk4)
          clear hrow4 hg4 HRW4 HPO4 HG4 hk4
          go_wp2_with fail
          go_roundw
          case rel=>exact ⟨at_+L,l++[t],by omega,by simp;omega,HNX.out,HRW5.out,HPS5.out,HG5.out⟩
          case measure =>
            rw [HMS.out,HPS5.out.cu.c1]
            simp [intOf]
            omega
end Go.Proofs.YtgpigjoonhghhaaGreat

namespace Go.Proofs.YtgpigjoonhghhaaGreat
open Go.RowKit
set_option linter.unusedVariables false
structure PrIn (w:World) (g:Nat) (n p:Int) (s t:Value):Prop where
  c0:w.cell? ⟨g,0,none⟩=some (.int .i64 n)
  c1:w.cell? ⟨g,1,none⟩=some (.int .i64 p)
  c2:w.cell? ⟨g,2,none⟩=some s
  c3:w.cell? ⟨g,3,none⟩=some t
  fr : ∀ j,w.frozen? ⟨g,j,none⟩=false
section
variable {w w':World} {g:Nat} {n p:Int} {s t:Value}
theorem PrIn.lt (h:PrIn w g n p s t):g<w.heap.size:=World.block_lt_of_cell? w _ h.c0
theorem PrIn.grown {row:Option Nat} (h:PrIn w g n p s t) (hg:w.grownBy w' row) (hne:some g≠row):PrIn w' g n p s t :=
  ⟨hg.cell h.c0 hne,hg.cell h.c1 hne,hg.cell h.c2 hne,hg.cell h.c3 hne,fun j=>(World.frozen?_of_block (a:=⟨g,j,none⟩) (hg.block g h.lt hne)).trans (h.fr j)⟩
theorem PrIn.below (h:PrIn w g n p s t) (hb:Below w.heap.size w w'):PrIn w' g n p s t:=h.grown (row:=none) (grown_of_below hb none) (by simp)
theorem PrIn.set0 (h:PrIn w g n p s t) (v:Int):PrIn (w.setCell ⟨g,0,none⟩ (.int .i64 v)) g v p s t:=by
  obtain ⟨c0,c1,c2,c3,fr⟩:=h
  exact ⟨by go_simp,by go_simp,by go_simp,by go_simp,fun j=>by rw [World.frozen?_setCell];exact fr j⟩
theorem PrIn.set1 (h:PrIn w g n p s t) (v:Int):PrIn (w.setCell ⟨g,1,none⟩ (.int .i64 v)) g n v s t:=by
  obtain ⟨c0,c1,c2,c3,fr⟩:=h
  exact ⟨by go_simp,by go_simp,by go_simp,by go_simp,fun j=>by rw [World.frozen?_setCell];exact fr j⟩
theorem PrIn.set2 (h:PrIn w g n p s t) (q:Option Addr) (m d:Nat):PrIn (w.setCell ⟨g,2,none⟩ (.slice q m d)) g n p (.slice q m d) t:=by
  obtain ⟨c0,c1,c2,c3,fr⟩:=h
  exact ⟨by go_simp,by go_simp,by go_simp,by go_simp,fun j=>by rw [World.frozen?_setCell];exact fr j⟩
theorem PrIn.set3 (h:PrIn w g n p s t) (q:Option Addr) (m d:Nat):PrIn (w.setCell ⟨g,3,none⟩ (.slice q m d)) g n p s (.slice q m d):=by
  obtain ⟨c0,c1,c2,c3,fr⟩:=h
  exact ⟨by go_simp,by go_simp,by go_simp,by go_simp,fun j=>by rw [World.frozen?_setCell];exact fr j⟩
theorem PrIn.new (w:World) (n p:Int) (q:Option Addr) (m d:Nat) (q':Option Addr) (m' d':Nat) (T:TypeId):PrIn (w.alloc (.cells #[.int .i64 n,.int .i64 p,.slice q m d,.slice q' m' d'] T)) w.heap.size n p (.slice q m d) (.slice q' m' d') :=
  ⟨by go_simp,by go_simp,by go_simp,by go_simp,fun j=>by go_simp⟩
end
theorem load_pr {w:World} {g:Nat} {n p:Int} {s t:Value} (h:PrIn w g n p s t):(loadVar 115 ⟨g,0,none⟩).run Tryz.prog w=.ok (.agg #[.int .i64 n,.int .i64 p,s,t]) w:=by
  obtain ⟨c0,c1,c2,c3,fr⟩:=h
  simp [loadVar,go_sem,c0,c1,c2,c3,Result.andThen]
theorem ret_pr {fn:Func} {R:Ending→World→Prop} {a:Act} {w:World} {p:Nat} {g:Nat} {x y:Int} {s t:Value} (h:fn.results=#[.cell p 115]) (hp:a.tmps.getD p undef=.pointer (some ⟨g,0,none⟩)) (hd:a.defers=[])
    (hh:PrIn w g x y s t) (hR:R (.returned (.agg #[.int .i64 x,.int .i64 y,s,t])) w):bodyPost Tryz.prog fn R .ret a w:=by
  refine bodyPost_ret (v:=.agg #[.int .i64 x,.int .i64 y,s,t]) ?_ hd hR
  rw [Array.getD_eq_getD_getElem?] at hp
  simp [results,h,hp,asAddr,load_pr hh]
def prV (zs:List Int):Option Pr :=
  if zs.length<4 then none else if (zs.length:Int)<4+zs.getD 2 0 then none
  else match trsV (zs.drop (4+(zs.getD 2 0).toNat)) with
  | none=>none
  | some ts=>if (ts.length:Int)≠zs.getD 3 0 then none else some ⟨zs.getD 0 0,zs.getD 1 0,(zs.drop 4).take (zs.getD 2 0).toNat,ts⟩
theorem prs_sec (ys:List Int) (hr : ∀ x∈ys,0≤x∧x≤255) (h:ys.length≠0):prsV ys=match secV 2 ys with
  | none=>none
  | some x=>match prV x.1 with
    | none=>none
    | some t=>(prsV (ys.drop x.2)).map (t :: ·):=by
  rw [prsV_step ys h]
  rcases hs:secV 2 ys with _ | ⟨zs,L⟩
  · simp only
    by_cases h8:ys.length<8
    · rw [if_pos h8]
    rw [if_neg h8]
    by_cases h9:w2 ys 2<8∨(ys.length:Int)<w2 ys 2
    · rw [if_pos h9]
    rw [if_neg h9]
    rcases secV_cases 2 ys with ⟨h2,h1⟩ | ⟨_,h2,h1⟩ | ⟨_,_,h2,h1⟩ | ⟨h2,h3,h4,h1⟩
    · omega
    · omega
    · rw [if_pos (Or.inl h2)]
    · rw [h1] at hs;cases hs
  · have hi:=secV_in hs
    have h1:=hi.len
    have h2:=hi.le
    simp only
    by_cases hz:zs.length<4
    · have ht:prV zs=none:=by unfold prV;rw [if_pos hz]
      rw [ht]
      simp only
      by_cases h8:ys.length<8
      · rw [if_pos h8]
      · rw [if_neg h8,hi.l,if_pos (by omega)]
    · have e0:¬ (ys.getD 0 0≠if (ys.length:Int)=L then 0 else 2):=Decidable.not_not.2 hi.x0
      have b6:=rng_getD hr 6
      have e2:zs.getD 0 0=ys.getD 4 0:=by rw [hi.zs,getD_inside _ _ _ (by omega)]
      have e3:zs.getD 1 0=ys.getD 5 0:=by rw [hi.zs,getD_inside _ _ _ (by omega)]
      have e4:zs.getD 2 0=ys.getD 6 0:=by rw [hi.zs,getD_inside _ _ _ (by omega)]
      have e5:zs.getD 3 0=ys.getD 7 0:=by rw [hi.zs,getD_inside _ _ _ (by omega)]
      rw [if_neg (by omega),hi.l,if_neg (by omega),Int.toNat_natCast]
      unfold prV
      rw [if_neg hz,e2,e3,e4,e5]
      by_cases hb:(L:Int)<8+ys.getD 6 0
      · rw [if_pos (Or.inr hb),if_pos (by omega)]
      · rw [if_neg (fun h=>h.elim e0 hb),if_neg (show ¬ (zs.length:Int)<4+ys.getD 6 0 by omega)]
        have e6:(ys.take L).drop (8+(ys.getD 6 0).toNat)=zs.drop (4+(ys.getD 6 0).toNat):=by
          rw [hi.zs,List.drop_drop]
          congr 1
          omega
        have e7:(ys.drop 8).take (ys.getD 6 0).toNat=(zs.drop 4).take (ys.getD 6 0).toNat:=by
          rw [hi.zs,List.drop_drop,List.drop_take,List.take_take]
          congr 1
          omega
        rw [e6,e7]
        cases trsV (zs.drop (4+(ys.getD 6 0).toNat)) with
        | none=>rfl
        | some ts =>
          simp only
          split<;>rfl
theorem trs_few : ∀ (ys:List Int) (l:List Tr),trsV ys=some l→l.length≤ys.length:=by
  suffices ∀ m (ys:List Int) (l:List Tr),ys.length≤m→trsV ys=some l→l.length≤ys.length from fun ys l h=>this _ ys l (Nat.le_refl _) h
  intro m
  induction m with
  | zero =>
    intro ys l h0 h
    rw [trsV_nil _ (by omega)] at h
    simp at h
    subst h
    simp
  | succ m ih =>
    intro ys l h0 h
    by_cases hz:ys.length=0
    · rw [trsV_nil _ hz] at h
      simp at h
      subst h
      simp
    rw [trs_sec _ hz] at h
    rcases hs:secV 3 ys with _ | ⟨zs,L⟩
    · rw [hs] at h;cases h
    rw [hs] at h
    simp only at h
    rcases ht:trV zs with _ | t
    · rw [ht] at h;cases h
    rw [ht] at h
    simp only at h
    have hl:=secV_len hs
    rcases hn:trsV (ys.drop L) with _ | l'
    · rw [hn] at h;cases h
    rw [hn] at h
    simp at h
    subst h
    have:=ih _ _ (by rw [List.length_drop];omega) hn
    rw [List.length_drop] at this
    simp
    omega
def GotPr (w:World) (k:Nat) (r:Option Pr) (e:Ending) (w':World):Prop :=
  w.grownBy w' (some k)∧match r with
  | none=>Thrown e
  | some y=>∃ x:PrP,x.pr=y∧e=.returned (.agg #[.int .i64 x.n,.int .i64 x.p,.slice x.sp x.sn x.sc,.slice x.tp x.tn x.tc])∧OkN w' w.heap.size x
theorem gotpr_none {w:World} {k:Nat} {r:Option Pr} {e:Ending} {w':World} (hg:w.grownBy w' (some k)) (hr:r=none) (ht:Thrown e):GotPr w k r e w':=by
  subst hr
  exact ⟨hg,ht⟩
structure PrS (w w1:World) (k:Nat) (p:Option Addr) (n c:Nat) (xs:List Int) (a:Nat) (x y:Int) (s t:Value):Prop where
  ps:PS w1 k p n c xs a
  gr:w.grownBy w1 (some k)
  lk:k<w.heap.size
  sz:w.heap.size+2≤w1.heap.size
  rt:PrIn w1 w.heap.size 0 0 (.slice none 0 0) (.slice none 0 0)
  ru:PrIn w1 (w.heap.size+1) x y s t
section
variable {w w1 w2:World} {k:Nat} {p:Option Addr} {n c:Nat} {xs:List Int} {a b:Nat} {x y:Int} {s t:Value}
theorem PrS.step (h:PrS w w1 k p n c xs a x y s t) (hg:w1.grownBy w2 (some k)) (hp:PS w2 k p n c xs b):PrS w w2 k p n c xs b x y s t :=
  ⟨hp,grown_trans h.gr hg,h.lk,Nat.le_trans h.sz hg.size,h.rt.grown hg (by have:=h.lk;simp;omega),h.ru.grown hg (by have:=h.lk;simp;omega)⟩
theorem PrS.below (h:PrS w w1 k p n c xs a x y s t) (hb:Below w1.heap.size w1 w2):PrS w w2 k p n c xs a x y s t:=h.step (grown_of_below hb _) (h.ps.below hb)
theorem PrS.set (h:PrS w w1 k p n c xs a x y s t) (j:Nat) (v:Value) {x' y':Int} {s' t':Value} (hu:PrIn (w1.setCell ⟨w.heap.size+1,j,none⟩ v) (w.heap.size+1) x' y' s' t'):PrS w (w1.setCell ⟨w.heap.size+1,j,none⟩ v) k p n c xs a x' y' s' t' :=
  ⟨h.ps.off (grown_set _ _ _ _) (fun r hr=>by cases hr;have:=h.lk;omega),grown_set_new h.gr _ _ _ (by omega),h.lk,Nat.le_trans h.sz (grown_set _ _ _ _).size,h.rt.grown (grown_set _ _ _ _) (by simp),hu⟩
end
theorem pn1_ok (p:Option Addr) (n c:Nat) (xs:List Int) (w:World) (k a:Nat) (h:PS w k p n c xs a) (v:Int) (hv:xs.getD a 0=v) (hin:a+1≤n) :
    Calls Tryz.prog 136 #[.pointer (some ⟨k,0,none⟩),.int .i64 1] w fun e w'=>e=.returned (.int .i64 v)∧w.grownBy w' (some k)∧PS w' k p n c xs (a+1):=by
  refine (pn1 p n c xs w k a h v hv).mono ?_
  rintro e w' ⟨hg,⟨h1,rfl,hc⟩ | ⟨h1,ht⟩⟩
  · exact ⟨rfl,hg,hc⟩
  · omega
theorem pn1_no (p:Option Addr) (n c:Nat) (xs:List Int) (w:World) (k a:Nat) (h:PS w k p n c xs a) (hin:n<a+1) :
    Calls Tryz.prog 136 #[.pointer (some ⟨k,0,none⟩),.int .i64 1] w fun e w'=>Thrown e∧w.grownBy w' (some k):=by
  refine (pn1 p n c xs w k a h _ rfl).mono ?_
  rintro e w' ⟨hg,⟨h1,rfl,hc⟩ | ⟨h1,ht⟩⟩
  · omega
  · exact ⟨ht,hg⟩
theorem thrown_in {P:Program} {G:Prop} (w:World) (h:G) (d:wpAny P .any #[] (fun _ _ _=>True) 0 #[] { tmps:=#[],defers:=[] } w):G:=h
set_option maxHeartbeats 1600000 in
set_option maxRecDepth 100000 in
theorem proposal_any (p:Option Addr) (n c:Nat) (xs:List Int) (w:World) (k:Nat) (h:PS w k p n c xs 0) (hn:n≤1048576) (r:Option Pr) (hr:prV xs=r) :
    Calls Tryz.prog 126 #[.pointer (some ⟨k,0,none⟩)] w (GotPr w k r):=by
  have hlen:=h.here.len
  have hrng:=h.here.rng
  have hnle:=h.here.le
  unfold prV at hr
  rw [hlen] at hr
  obtain ⟨x0,hx0⟩ : ∃ x0,xs.getD 0 0=x0:=⟨_,rfl⟩
  obtain ⟨x1,hx1⟩ : ∃ x0,xs.getD 1 0=x0:=⟨_,rfl⟩
  obtain ⟨x2,hx2⟩ : ∃ x0,xs.getD 2 0=x0:=⟨_,rfl⟩
  obtain ⟨x3,hx3⟩ : ∃ x0,xs.getD 3 0=x0:=⟨_,rfl⟩
  have b0:=rng_getD hrng 0
  have b1:=rng_getD hrng 1
  have b2:=rng_getD hrng 2
  have b3:=rng_getD hrng 3
  rw [hx0] at b0
  rw [hx1] at b1
  rw [hx2] at b2
  rw [hx3] at b3
  rw [hx0,hx1,hx2,hx3] at hr
  have HR:=hidden hr
  have HX0:=hidden hx0
  have HX1:=hidden hx1
  have HX2:=hidden hx2
  have HX3:=hidden hx3
  have h0:Below w.heap.size w ((w.alloc (.cells #[.int .i64 0,.int .i64 0,.slice none 0 0,.slice none 0 0] 115)).alloc (.cells #[.int .i64 0,.int .i64 0,.slice none 0 0,.slice none 0 0] 115)):=((Below.refl _ w).alloc (Nat.le_refl _) _).alloc (by simp) _
  have HS0:Hid (PrS w ((w.alloc (.cells #[.int .i64 0,.int .i64 0,.slice none 0 0,.slice none 0 0] 115)).alloc (.cells #[.int .i64 0,.int .i64 0,.slice none 0 0,.slice none 0 0] 115)) k p n c xs 0 0 0 (.slice none 0 0) (.slice none 0 0)):=hidden ⟨h.below h0,grown_of_below h0 (some k),h.lt,by simp,(PrIn.new w 0 0 none 0 0 none 0 0 115).below ((Below.refl _ _).alloc (Nat.le_refl _) _),by
    have:=PrIn.new (w.alloc (.cells #[.int .i64 0,.int .i64 0,.slice none 0 0,.slice none 0 0] 115)) 0 0 none 0 0 none 0 0 115
    simpa using this⟩
  clear hr h hx0 hx1 hx2 hx3 hrng hlen h0
  go_enter Tryz.func126,Tryz.ntmps126
  go_wp2_with fail
  go_at_call 136
  (with_reducible refine (pn1 p n c xs _ k 0 HS0.out.ps x0 HX0.out).mono ?_)
  rintro e w1 ⟨hg1,⟨hi1,rfl,hps1⟩ | ⟨hi1,ht⟩⟩
  rotate_left
  · subst ht
    exact ⟨rfl,gotpr_none (grown_trans HS0.out.gr hg1) (by rw [←HR.out,if_pos (by omega)]) rfl⟩
  have HS1:=hidden (HS0.out.step hg1 hps1)
  clear HS0 hg1 hps1
  have HS2:=hidden (HS1.out.set 0 (.int .i64 x0) (HS1.out.ru.set0 x0))
  have u1:=HS1.out.ru.c0
  have fr1:=HS1.out.ru.fr
  go_wp2_with fail
  clear u1 fr1
  go_at_call 136
  (with_reducible refine (pn1 p n c xs _ k 1 HS2.out.ps x1 HX1.out).mono ?_)
  rintro e w2 ⟨hg1,⟨hi2,rfl,hps1⟩ | ⟨hi2,ht⟩⟩
  rotate_left
  · subst ht
    exact ⟨rfl,gotpr_none (grown_trans HS2.out.gr hg1) (by rw [←HR.out,if_pos (by omega)]) rfl⟩
  have HS3:=hidden (HS2.out.step hg1 hps1)
  clear HS1 HS2 hg1 hps1
  have HS4:=hidden (HS3.out.set 1 (.int .i64 x1) (HS3.out.ru.set1 x1))
  have u1:=HS3.out.ru.c1
  have fr1:=HS3.out.ru.fr
  go_wp2_with fail
  clear u1 fr1 HS3
  have HSD:Hid (PrS w (w2.setCell ⟨w.heap.size+1,1,none⟩ (.int .i64 x1)).drew k p n c xs 2 x0 x1 (.slice none 0 0) (.slice none 0 0)):=hidden (HS4.out.below (drew_below ⟨1,rfl⟩))
  by_cases h3:n<3
  · have C1:=hidden (pn1_no p n c xs _ k 2 HSD.out.ps (by omega))
    have hr:=HR.out
    rw [if_pos (by omega)] at hr
    have HR2:=hidden hr
    clear hr HR HS4
    go_region_law (first | (go_simp;go_at_call 136;(with_reducible refine (C1.out).mono ?_);rintro e wA ⟨ht,hg⟩;subst ht;refine thrown_in (P:=Tryz.prog) w ⟨rfl,gotpr_none (grown_trans HSD.out.gr hg) HR2.out.symm rfl⟩ ?_))
    all_goals trivial
  have C1:=hidden (pn1_ok p n c xs _ k 2 HSD.out.ps x2 HX2.out (by omega))
  by_cases h4:n<4
  · have C2:=hidden (fun wA (h:PS wA k p n c xs 3)=>pn1_no p n c xs wA k 3 h (by omega))
    have hr:=HR.out
    rw [if_pos (by omega)] at hr
    have HR2:=hidden hr
    clear hr HR HS4
    go_region_law (first
      | (go_simp;go_at_call 136;(with_reducible refine (C1.out).mono ?_);rintro e wA ⟨rfl,hg,hps⟩;have hg':=grown_trans HSD.out.gr hg)
      | (go_simp;go_at_call 136;(with_reducible refine (C2.out _ hps).mono ?_);rintro e wB ⟨ht,hg⟩;subst ht;refine thrown_in (P:=Tryz.prog) w ⟨rfl,gotpr_none (grown_trans hg' hg) HR2.out.symm rfl⟩ ?_))
    all_goals trivial
  have C2:=hidden (fun wA (h:PS wA k p n c xs 3)=>pn1_ok p n c xs wA k 3 h x3 HX3.out (by omega))
  have hr:=HR.out
  rw [if_neg h4] at hr
  have HR2:=hidden hr
  clear hr HR HS4
  go_region_law (first
    | (go_simp;go_at_call 136;(with_reducible refine (C1.out).mono ?_);rintro e wA ⟨rfl,hg,hps⟩;have hs5:=HSD.out.step hg hps)
    | (go_simp;go_at_call 136;(with_reducible refine (C2.out _ hps).mono ?_);rintro e wB ⟨rfl,hg,hps⟩;have hs6:=hs5.step hg hps))
  all_goals
    have HS7:=hidden hs6
    clear hs5 hs6 hps hg C1 C2 HSD
    go_wp2_with fail
    go_at_call 137
    (with_reducible refine (pt p n c xs _ k 4 HS7.out.ps (by omega) x2 (by omega)).mono ?_)
    rintro e w5 ⟨hg5,⟨hi4,hi5,q,m,d,rfl,hby,hps5⟩ | ⟨hi4,ht⟩⟩
    rotate_left
    · subst ht
      exact ⟨rfl,gotpr_none (grown_trans HS7.out.gr hg5) (by rw [←HR2.out,if_pos (by omega)]) rfl⟩
    have hr:=HR2.out
    rw [if_neg (by omega)] at hr
    have HR3:=hidden hr
    have HS8:=hidden (HS7.out.step hg5 hps5)
    have hby2:=hby.mono HS7.out.sz
    clear hr HR2 hg5 hps5 hby
    have HS9:=hidden (HS8.out.set 2 (.slice q m d) (HS8.out.ru.set2 q m d))
    have HBY:=hidden (hby2.grown (grown_set _ (w.heap.size+1) 2 (.slice q m d)) (OffB.low (by omega)))
    have u1:=HS8.out.ru.c2
    have fr1:=HS8.out.ru.fr
    clear hby2 HS7
    obtain ⟨tv,htv⟩ : ∃ tv,trsV (xs.drop (4+x2.toNat))=tv:=⟨_,rfl⟩
    have HTV:=hidden htv
    have hr:=HR3.out
    rw [htv] at hr
    have HR4:=hidden hr
    clear htv hr HR3
    go_wp2_with fail
    clear u1 fr1
    go_at_call 140
    (with_reducible refine (ptransforms_any p n c xs _ k (4+x2.toNat) HS9.out.ps hn tv HTV.out).mono ?_)
    rintro e w6 ⟨hg6,hh⟩
    cases tv with
    | none =>
      subst hh
      exact ⟨rfl,gotpr_none (grown_trans HS9.out.gr hg6) HR4.out.symm rfl⟩
    | some ts =>
      obtain ⟨v,rfl,hrow⟩:=hh
      obtain ⟨tp,tc,rfl⟩:=hrow.form rfl
      have hr:=HR4.out
      simp only at hr
      have HR5:=hidden hr
      have hlk:=HS9.out.lk
      have HBY2:=hidden (HBY.out.grown hg6 (OffB.low (by omega)))
      have HRW:=hidden (hrow.mono HS9.out.sz)
      have hrt:=HS9.out.rt.grown hg6 (by simp;omega)
      have hru:=HS9.out.ru.grown hg6 (by simp;omega)
      have HG6:=hidden (grown_trans HS9.out.gr hg6)
      have HRT:=hidden hrt
      have HRU:=hidden hru
      have HSZ:=hidden (Nat.le_trans HS9.out.sz hg6.size)
      have c0:=hru.c0
      have c1:=hru.c1
      have c2:=hru.c2
      have c3:=hru.c3
      have fr1:=hru.fr
      have d0:=hrt.c0
      have d1:=hrt.c1
      have d2:=hrt.c2
      have d3:=hrt.c3
      have fr:=hrt.fr
      have htl:ts.length≤9223372036854775807:=by
        have:=trs_few _ _ HTV.out
        have:=HS9.out.ps.here.len
        rw [List.length_drop] at *
        omega
      clear hr HR4 hg6 hrow hrt hru HS9 HBY
      go_wp2_with fail
      go_at_call 138
      (refine (need_any _ _).mono ?_)
      rintro e w8 ⟨rfl,⟨ht,rfl⟩ | ⟨ht,hth⟩⟩
      rotate_left
      · subst hth
        exact ⟨rfl,gotpr_none (grown_set_new HG6.out _ _ _ (by omega)) (by rw [←HR5.out,if_pos (by simpa using ht)]) rfl⟩
      have hr:=HR5.out
      rw [if_neg (by simpa using ht)] at hr
      have HR6:=hidden hr
      clear ht hr HR5
      go_wp2
      refine ret_pr rfl rfl rfl ((((((HRT.out.grown (grown_set _ (w.heap.size+1) 3 (.slice tp ts.length tc)) (by simp)).set0 x0).set1 x1).set2 q m d).set3 tp ts.length tc)) ?_
      have e1:(w6.setCell ⟨w.heap.size+1,3,none⟩ (.slice tp ts.length tc)).grownBy (((((w6.setCell ⟨w.heap.size+1,3,none⟩ (.slice tp ts.length tc)).setCell ⟨w.heap.size,0,none⟩ (.int .i64 x0)).setCell ⟨w.heap.size,1,none⟩ (.int .i64 x1)).setCell ⟨w.heap.size,2,none⟩ (.slice q m d)).setCell ⟨w.heap.size,3,none⟩ (.slice tp ts.length tc)) (some w.heap.size) :=
        grown_trans (grown_trans (grown_trans (grown_set _ _ _ _) (grown_set _ _ _ _)) (grown_set _ _ _ _)) (grown_set _ _ _ _)
      have e0:=grown_set w6 (w.heap.size+1) 3 (.slice tp ts.length tc)
      refine ⟨grown_new (grown_set_new HG6.out _ _ _ (by omega)) e1 (Nat.le_refl _),?_⟩
      rw [←HR6.out]
      refine ⟨⟨x0,x1,q,m,d,(xs.drop 4).take x2.toNat,tp,ts.length,tc,ts⟩,rfl,rfl,⟨⟨⟨by show -9223372036854775808≤x0;omega,by show x0≤9223372036854775807;omega⟩,by show -9223372036854775808≤x1;omega,by show x1≤9223372036854775807;omega⟩,?_,?_⟩⟩
      · exact ((HBY2.out.grown e0 (OffB.low (by omega))).grown e1 (OffB.low (by omega))).mono (by omega)
      · exact ((HRW.out.low e0 (by omega)).low e1 (by omega)).mono (by omega)
end Go.Proofs.YtgpigjoonhghhaaGreat

namespace Go.Proofs.YtgpigjoonhghhaaGreat
open Go.RowKit
set_option linter.unusedVariables false
def GotPs (w:World) (k:Nat) (r:Option (List Pr)) (e:Ending) (w':World):Prop :=
  w.grownBy w' (some k)∧match r with
  | none=>Thrown e
  | some l=>∃ (v:Value) (ls:List PrP),e=.returned v∧ls.map PrP.pr=l∧RowG KPr NPr w' w.heap.size v ls
theorem gotps_none {w:World} {k:Nat} {r:Option (List Pr)} {e:Ending} {w':World} (hg:w.grownBy w' (some k)) (hr:r=none) (ht:Thrown e):GotPs w k r e w':=by
  subst hr
  exact ⟨hg,ht⟩
set_option maxHeartbeats 1600000 in
set_option maxRecDepth 100000 in
theorem pproposals_any (p:Option Addr) (n c:Nat) (xs:List Int) (w:World) (k a:Nat) (h:PS w k p n c xs a) (hn:n≤1048576) (r:Option (List Pr)) (hr:prsV (xs.drop a)=r) :
    Calls Tryz.prog 120 #[.pointer (some ⟨k,0,none⟩)] w (GotPs w k r):=by
  have HR:=hidden hr
  have HL:=hidden h.here.len
  have HRG:=hidden h.here.rng
  have HP:=hidden h
  have HK:=hidden h.lt
  clear hr h
  go_enter Tryz.func120,Tryz.ntmps120
  go_wp2_with fail
  go_loopw [3] (fun o wr=>∃ (at_:Nat) (l:List PrP),at_≤n∧l.length≤at_∧(prsV (xs.drop at_)).map (l.map PrP.pr++·)=r∧RowG KPr NPr wr w.heap.size o l∧PS wr k p n c xs at_∧w.grownBy wr (some k)) (fun _ wr=>n - (intOf ((wr.cell? ⟨k,1,none⟩).getD (.int .i64 0))).toNat)
  case atStart=>exact ⟨a,[],HP.out.le,by simp,by rw [HR.out];simp,RowG.nil _ _ _ _,HP.out,grown_refl _ _⟩
  case round =>
    obtain ⟨at_,l,hat,hl8,hres,hrow,hps,hgr⟩:=hrel
    obtain ⟨po,co,rfl⟩:=hrow.form rfl
    have HRW:=hidden hrow
    have HPS:=hidden hps
    have HGR:=hidden hgr
    have hmeas:(intOf ((wr.cell? ⟨k,1,none⟩).getD (.int .i64 0))).toNat=at_:=by rw [hps.cu.c1];simp [intOf]
    have HMS:=hidden hmeas
    clear hrow hps hgr hmeas
    obtain ⟨b,hb⟩ : ∃ b,b=decide (at_<n):=⟨_,rfl⟩
    have HB:=hidden hb
    clear hb
    go_wp2_with fail
    go_at_call 124
    (with_reducible refine (pl p n c xs _ k at_ HPS.out b HB.out).mono ?_)
    rintro e w1 ⟨rfl,hb1,hps1⟩
    by_cases hlt:¬ at_<n
    · obtain rfl:b=false:=by rw [HB.out];simpa using hlt
      have hz:(xs.drop at_).length=0:=by simp [HL.out];omega
      rw [prsV_nil _ hz] at hres
      simp at hres
      subst hres
      have HB1:=hidden hb1
      clear HR hb1
      go_wp2_with fail
      go_ret
      exact ⟨grown_trans HGR.out (grown_of_below HB1.out _),_,_,rfl,rfl,HRW.out.below HB1.out⟩
    · obtain rfl:b=true:=by rw [HB.out];simpa using hlt
      have hnz:(xs.drop at_).length≠0:=by simp [HL.out];omega
      have hst:=prs_sec (xs.drop at_) (rng_drop HRG.out _) hnz
      have HST:=hidden hst
      have HRES:=hidden hres
      have HP1:=hidden hps1
      have HB1:=hidden hb1
      clear hst hres hps1 hb1 hnz
      obtain ⟨sv,hsv⟩ : ∃ sv,secV 2 (xs.drop at_)=sv:=⟨_,rfl⟩
      have HSV:=hidden hsv
      clear hsv
      go_wp2_with fail
      go_at_call 125
      (with_reducible refine (section_any 2 p n c xs _ k at_ HP1.out hn sv HSV.out).mono ?_)
      rintro e w2 ⟨hg2,hh⟩
      cases sv with
      | none =>
        subst hh
        refine ⟨rfl,gotps_none (grown_trans (grown_trans HGR.out (grown_of_below HB1.out _)) hg2) (map_none_app _ _ _ HRES.out ?_) rfl⟩
        rw [HST.out,HSV.out]
      | some x =>
        obtain ⟨zs,L⟩:=x
        obtain ⟨R,q,m,d,rfl,hR,hpi,hpo⟩:=hh
        simp only at hpi hpo
        have HG2:=hidden (grown_trans (grown_of_below HB1.out (some k)) hg2)
        have HPO:=hidden hpo
        have HPI:=hidden hpi
        have hR':wr.heap.size≤R:=Nat.le_trans HB1.out.size hR
        have hlen:=secV_len HSV.out
        rw [List.length_drop,HL.out] at hlen
        have hm:m≤1048576:=by have:=hpi.here.len;omega
        clear hg2 hpo hpi hR
        obtain ⟨tv,htv⟩ : ∃ tv,prV zs=tv:=⟨_,rfl⟩
        have HTV:=hidden htv
        clear htv
        go_wp2_with fail
        go_at_call 126
        (with_reducible refine (proposal_any q m d zs _ R HPI.out hm tv HTV.out).mono ?_)
        rintro e w3 ⟨hg3,hh⟩
        cases tv with
        | none =>
          subst hh
          refine ⟨rfl,gotps_none (grown_trans HGR.out (grown_new HG2.out hg3 hR')) (map_none_app _ _ _ HRES.out ?_) rfl⟩
          rw [HST.out,HSV.out]
          simp only
          rw [HTV.out]
        | some t =>
          obtain ⟨y,hy,rfl,hint⟩:=hh
          have hg4:=grown_new HG2.out hg3 hR'
          have HRW4:=hidden (HRW.out.low hg4 HK.out)
          have HPO4:=hidden (HPO.out.off hg3 (fun r hr=>by cases hr;have:=HPO.out.lt;have:=HPS.out.lt;omega))
          have HG4:=hidden (grown_trans HGR.out hg4)
          have hsz:w.heap.size≤w2.heap.size:=(grown_trans HGR.out HG2.out).size
          have HI:=hidden (NPr.keep (NPr.mono hint hsz) (grown_of_below ((Below.refl _ w3).alloc (Nat.le_refl _) (.cells #[.int .i64 y.n,.int .i64 y.p,.slice y.sp y.sn y.sc,.slice y.tp y.tn y.tc] 115)) none) (OffT.none _ _ _))
          have hnext:(prsV (xs.drop (at_+L))).map ((l++[y]).map PrP.pr++·)=r:=by
            rw [←HRES.out,HST.out,HSV.out]
            simp only
            rw [HTV.out]
            simp only [Option.map_map,List.drop_drop]
            congr 1
            funext z
            simp [hy]
          have HNX:=hidden hnext
          clear hg3 hg4 hint hnext HRES HST HRW HPS HGR HPO HG2 HP1 HB1 HPI hy
          go_wp2_with (at_builtin;go_loud (refine wpList_append_g knownPr (by simp [NPr,KPr]) _ rfl _ _ rfl w.heap.size _ l rfl (HRW4.out.alloc _) _ 1 1 [y] rfl (srcPr w3 y _) (fun x hx=>by rw [List.mem_singleton.1 hx];exact HI.out) ?b1 ?b2 ?b3 ?_))
          case b1=>unfold maxLen;omega
          case b2=>omega
          case b3=>have:=HG4.out.size;simp;omega
          intro v4 w4 hrow4 hg4
          have hk4 : ∀ r,(Value.slice po l.length co).ownBlock=some r→w.heap.size≤r:=fun r hr=>(HRW4.out.lt r hr).1
          have HRW5:=hidden hrow4
          have HPS5:=hidden ((HPO4.out.below ((Below.refl _ _).alloc (Nat.le_refl _) _)).off hg4 (fun r hr=>by have:=hk4 r hr;have:=HK.out;omega))
          have HG5:=hidden (grown_own (grown_alloc_new HG4.out _) hg4 hk4)
          clear hrow4 hg4 HRW4 HPO4 HG4 hk4
          go_wp2_with fail
          go_roundw
          case rel=>exact ⟨at_+L,l++[y],by omega,by simp;omega,HNX.out,HRW5.out,HPS5.out,HG5.out⟩
          case measure =>
            rw [HMS.out,HPS5.out.cu.c1]
            simp [intOf]
            omega
theorem catch_thrown (g h:Nat) (u:TypeId) (pv:Value) (older:List PanicEntry) (w:World) (q:Option Addr) (m d:Nat) (b:Bool) (hne:g≠h) (hc:w.cell? ⟨g,0,none⟩=some (.slice q m d)) (hz:w.frozen? ⟨g,0,none⟩=false) (hc':w.cell? ⟨h,0,none⟩=some (.bool b)) (hz':w.frozen? ⟨h,0,none⟩=false) :
    CallsD Tryz.prog 119 #[.pointer (some ⟨g,0,none⟩),.pointer (some ⟨h,0,none⟩)] (.panicking ({ v:=.iface u pv,recovered:=false } :: older)) w fun e u' w' =>
      e=.returned (.tuple #[])∧u'=.panicking ({ v:=.iface u pv,recovered:=true } :: older)∧w'=(w.setCell ⟨g,0,none⟩ (.slice none 0 0)).setCell ⟨h,0,none⟩ (.bool false):=by
  refine callsD_of_wpS Tryz.func119 rfl fun c₀ cs hu=>?_
  apply wpS_seq
  apply wpS_region
  simp [wpOpsS,go_sem,recoverD,hu,Tryz.ntmps119,Exit.thenS]
  refine wpS_cond (t:=true) (by simp [Act.eval,Array.replicate]) ?_
  simp only [if_true]
  apply wpS_region
  simp [wpOpsS,go_sem,hc,hz,hc',hz',bodyPostS,results,Tryz.results119]
theorem catch_idle (g h:Nat) (w:World) :
    CallsD Tryz.prog 119 #[.pointer (some ⟨g,0,none⟩),.pointer (some ⟨h,0,none⟩)] .returning w fun e u' w'=>e=.returned (.tuple #[])∧u'=.returning∧w'=w:=by
  refine callsD_of_wpS Tryz.func119 rfl fun c₀ cs hu=>?_
  apply wpS_seq
  apply wpS_region
  simp [wpOpsS,go_sem,recoverD,hu,Tryz.ntmps119,Exit.thenS]
  refine wpS_cond (t:=false) (by simp [Act.eval,Array.replicate]) ?_
  simp only [Bool.false_eq_true,if_false]
  refine wpS_of_wp (wp_skip ?_)
  cases c₀
  simp_all [bodyPostS,results,Tryz.results119]
def ReadP (w:World) (r:Option (List Pr)) (e:Ending) (w':World):Prop :=
  Below w.heap.size w w'∧match r with
  | none=>e=.returned (.tuple #[.slice none 0 0,.bool false])
  | some l=>∃ (v:Value) (ls:List PrP),e=.returned (.tuple #[v,.bool true])∧ls.map PrP.pr=l∧RowG KPr NPr w' w.heap.size v ls
set_option maxHeartbeats 1600000 in
set_option maxRecDepth 100000 in
theorem read_any (p:Option Addr) (n c:Nat) (xs:List Int) (w:World) (h:Byt w p n c xs) (hn:n≤1048576) (r:Option (List Pr)) (hr:prsV xs=r) :
    Calls Tryz.prog 113 #[.slice p n c] w (ReadP w r):=by
  have hmf : ∀ (fn:Fn) (first cap:Array Value) (w:World),(Instr.makeFunc fn first cap).run Tryz.prog w=.ok (.func fn first cap) w:=fun _ _ _ _=>rfl
  have HX:=hidden h
  have HR:=hidden hr
  clear h hr
  go_enter_defers Tryz.func113,Tryz.ntmps113
  go_wp2_with fail
  have h2:Below w.heap.size w ((w.alloc (.cells #[.slice none 0 0] 35)).alloc (.cells #[.bool false] 4)):=((Below.refl _ w).alloc (Nat.le_refl _) _).alloc (by simp) _
  have h3:Below w.heap.size w (((w.alloc (.cells #[.slice none 0 0] 35)).alloc (.cells #[.bool false] 4)).alloc (.cells #[.slice p n c,.int .i64 0] 183)):=h2.alloc h2.size _
  have hps:PS (((w.alloc (.cells #[.slice none 0 0] 35)).alloc (.cells #[.bool false] 4)).alloc (.cells #[.slice p n c,.int .i64 0] 183)) (w.heap.size+1+1) p n c xs 0 :=
    ⟨by have:=Cu.new ((w.alloc (.cells #[.slice none 0 0] 35)).alloc (.cells #[.bool false] 4)) p n c 0 183;simpa using this,⟨w,HX.out,h3,by omega⟩,by omega⟩
  obtain ⟨W0,hW0⟩ : ∃ W0,(((w.alloc (.cells #[.slice none 0 0] 35)).alloc (.cells #[.bool false] 4)).alloc (.cells #[.slice p n c,.int .i64 0] 183))=W0:=⟨_,rfl⟩
  have c0:W0.cell? ⟨w.heap.size,0,none⟩=some (.slice none 0 0):=by subst hW0;go_simp
  have c1:W0.cell? ⟨w.heap.size+1,0,none⟩=some (.bool false):=by subst hW0;go_simp
  have f0:W0.frozen? ⟨w.heap.size,0,none⟩=false:=by subst hW0;go_simp
  have f1:W0.frozen? ⟨w.heap.size+1,0,none⟩=false:=by subst hW0;go_simp
  have hs:W0.heap.size=w.heap.size+3:=by subst hW0;simp
  rw [hW0] at hps h3 ⊢
  clear hW0 h2
  (with_reducible refine (pproposals_any p n c xs W0 (w.heap.size+1+1) 0 hps hn r (by rw [List.drop_zero];exact HR.out)).mono ?_)
  rintro e w1 ⟨hg,hh⟩
  have d0:w1.cell? ⟨w.heap.size,0,none⟩=some (.slice none 0 0):=hg.cell c0 (by simp;omega)
  have d1:w1.cell? ⟨w.heap.size+1,0,none⟩=some (.bool false):=hg.cell c1 (by simp)
  have g0:w1.frozen? ⟨w.heap.size,0,none⟩=false:=(World.frozen?_of_block (a:=⟨w.heap.size,0,none⟩) (hg.block w.heap.size (by omega) (by simp;omega))).trans f0
  have g1:w1.frozen? ⟨w.heap.size+1,0,none⟩=false:=(World.frozen?_of_block (a:=⟨w.heap.size+1,0,none⟩) (hg.block (w.heap.size+1) (by omega) (by simp))).trans f1
  have hb1:Below w.heap.size w w1:=h3.grown hg h3.size (fun r hr=>by cases hr;omega)
  have hbs : ∀ (a b:Value),Below w.heap.size w ((w1.setCell ⟨w.heap.size,0,none⟩ a).setCell ⟨w.heap.size+1,0,none⟩ b):=fun a b =>
    (hb1.grown (grown_set w1 w.heap.size 0 a) hb1.size (fun r hr=>by cases hr;exact Nat.le_refl _)).grown (grown_set _ (w.heap.size+1) 0 b) (by simpa using hb1.size) (fun r hr=>by cases hr;omega)
  cases r with
  | none =>
    subst hh
    refine leaves_cons (f:=119) (args:=#[.pointer (some ⟨w.heap.size,0,none⟩),.pointer (some ⟨w.heap.size+1,0,none⟩)]) (by simp) (by simp [go_sem]) ?_
    refine (catch_thrown w.heap.size (w.heap.size+1) 52 _ [] w1 none 0 0 false (by omega) d0 g0 d1 g1).mono ?_
    rintro e u' w'' ⟨rfl,rfl,rfl⟩
    simp [Leaves,settle,results,Tryz.results113,go_sem,d0,d1]
    exact ⟨hbs _ _,rfl⟩
  | some l =>
    obtain ⟨v,ls,rfl,hl,hrow⟩:=hh
    obtain ⟨vp,vc,rfl⟩:=hrow.form rfl
    go_wp2
    refine leaves_cons (f:=119) (args:=#[.pointer (some ⟨w.heap.size,0,none⟩),.pointer (some ⟨w.heap.size+1,0,none⟩)]) (by simp) (by simp [go_sem]) ?_
    refine (catch_idle w.heap.size (w.heap.size+1) _).mono ?_
    rintro e u' w'' ⟨rfl,rfl,rfl⟩
    simp [Leaves,settle,results,Tryz.results113,go_sem,d0,d1]
    refine ⟨hbs _ _,_,ls,rfl,hl,?_⟩
    exact ((hrow.low (grown_set w1 w.heap.size 0 _) (by omega)).low (grown_set _ (w.heap.size+1) 0 _) (by omega)).mono (by omega)
end Go.Proofs.YtgpigjoonhghhaaGreat
