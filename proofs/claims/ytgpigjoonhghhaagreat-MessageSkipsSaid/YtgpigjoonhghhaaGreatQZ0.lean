/-
 Plain words for slices of bytes in the model's memory, whatever the program: what it means that a slice value reads as a list of numbers, and that this stays so while a call only adds memory of its own.
 Growing slices of bytes, whatever the program: append, make and copy on a row that the call owns, the bytes told by a list of numbers.
 What the program knows of bytes, and a row of the call's own that was just made.
 A list of choices: what its methods return is a number in range, and they write nothing but the list's own place.
 A list of choices: its making.
 Bytes that lie in a block of bytes of the call's own: they stay while rows of other things, or blocks of before, are written.
 A list of choices: an int; ints that lie in a block; growing worlds.
 Plain mathematics, no program: selectors as sets of packets; their meet; who lies inside whom.
 Rows of structures of the call's own, whatever the program: elements of a fixed number of cells, with memory of their own behind them.
 Plain mathematics, no program: proposals as bytes, written and read.
 Rows of transforms and of proposals in memory: what they are, how they stay, how they grow.
-/
import Derived.Test.YtgpigjoonhghhaaGreatRows
import Derived.Test.YtgpigjoonhghhaaGreatQNum
import Derived.WalkKit
import Derived.ProofKit
import Derived.SizedLaws
import Derived.Deep.Draws
import Derived.Lib.SliceRun
import Derived.Laws.CopyOwn
import Derived.Deep.QuietTactic
import Derived.BigQuiet
namespace Go.Proofs.YtgpigjoonhghhaaGreat
open Go.RowKit Go.ChangeShapes Go.WideShapes
theorem hidden {p:Prop} (h:p):Hid p:=h
def InMem (w:World) (p:Option Addr) (xs:List Int):Prop :=
 0<xs.length→∃ b o,p=some ⟨b,o,none⟩∧∀ i,i<xs.length→w.cell? ⟨b,o+i,none⟩=some (.int .u8 (xs.getD i 0))
structure Byt (w:World) (p:Option Addr) (n c:Nat) (xs:List Int):Prop where
 len:xs.length=n
 cap:n≤c
 big:c≤maxLen
 rng : ∀ x∈xs,0≤x∧x≤255
 mem:InMem w p xs
theorem rng_getD {xs:List Int} (h : ∀ x∈xs,0≤x∧x≤255) (i:Nat):0≤xs.getD i 0∧xs.getD i 0≤255:=by
 rw [List.getD_eq_getElem?_getD]
 rcases Nat.lt_or_ge i xs.length with hi | hi
 ·rw [List.getElem?_eq_getElem hi]
  exact h _ (List.getElem_mem hi)
 ·rw [List.getElem?_eq_none hi]
  simp
theorem rng_take {xs:List Int} (h : ∀ x∈xs,0≤x∧x≤255) (k:Nat) : ∀ x∈xs.take k,0≤x∧x≤255:=fun x hx=>h x (List.mem_of_mem_take hx)
theorem rng_drop {xs:List Int} (h : ∀ x∈xs,0≤x∧x≤255) (k:Nat) : ∀ x∈xs.drop k,0≤x∧x≤255:=fun x hx=>h x (List.mem_of_mem_drop hx)
theorem rng_append {xs ys:List Int} (h : ∀ x∈xs,0≤x∧x≤255) (k : ∀ x∈ys,0≤x∧x≤255) : ∀ x∈xs++ys,0≤x∧x≤255:=fun x hx=>(List.mem_append.1 hx).elim (h x) (k x)
theorem InMem.nil (w:World) (p:Option Addr):InMem w p []:=fun h=>absurd h (by simp)
theorem InMem.keep {w w':World} {p:Option Addr} {xs:List Int} (h:InMem w p xs) (hk : ∀ a v,w.cell? a=some v→w'.cell? a=some v):InMem w' p xs:=fun hn=>by
 obtain ⟨b,o,e,hc⟩:=h hn
 exact ⟨b,o,e,fun i hi=>hk _ _ (hc i hi)⟩
theorem Byt.keep {w w':World} {p:Option Addr} {n c:Nat} {xs:List Int} (h:Byt w p n c xs) (hk : ∀ a v,w.cell? a=some v→w'.cell? a=some v):Byt w' p n c xs :=
 ⟨h.len,h.cap,h.big,h.rng,h.mem.keep hk⟩
theorem cell_below {w w':World} (hb:Below w.heap.size w w') (a:Addr) (v:Value) (h:w.cell? a=some v):w'.cell? a=some v :=
 (hb.cell (World.block_lt_of_cell? w a h)).trans h
theorem Byt.below {w w':World} {p:Option Addr} {n c:Nat} {xs:List Int} (h:Byt w p n c xs) (hb:Below w.heap.size w w'):Byt w' p n c xs:=h.keep (cell_below hb)
theorem Byt.alloc {w:World} {p:Option Addr} {n c:Nat} {xs:List Int} (h:Byt w p n c xs) (o:Obj):Byt (w.alloc o) p n c xs:=h.below ((Below.refl _ _).alloc (Nat.le_refl _) o)
theorem Byt.le {w:World} {p:Option Addr} {n c:Nat} {xs:List Int} (h:Byt w p n c xs):n≤9223372036854775807:=by
 have h1:=h.cap
 have h2:=h.big
 unfold maxLen at h2
 omega
theorem Byt.at_ {w:World} {p:Option Addr} {n c:Nat} {xs:List Int} (h:Byt w p n c xs) (hn:0<n) :
  ∃ b o,p=some ⟨b,o,none⟩∧∀ i,i<n→w.cell? ⟨b,o+i,none⟩=some (.int .u8 (xs.getD i 0)):=by
 obtain ⟨b,o,e,hc⟩:=h.mem (by have:=h.len;omega)
 exact ⟨b,o,e,fun i hi=>hc i (by have:=h.len;omega)⟩
theorem Byt.lt {w:World} {b o n c:Nat} {xs:List Int} (h:Byt w (some ⟨b,o,none⟩) n c xs) (hn:0<n):b<w.heap.size:=by
 obtain ⟨b',o',e,hc⟩:=h.at_ hn
 injection e with e
 injection e with e1 e2
 subst e1
 exact World.block_lt_of_cell? w _ (hc 0 hn)
theorem Byt.nil (w:World) (p:Option Addr) (c:Nat) (hc:c≤maxLen):Byt w p 0 c []:=⟨rfl,Nat.zero_le _,hc,fun _ h=>by simp at h,InMem.nil _ _⟩
theorem Byt.part {w:World} {p:Option Addr} {n c:Nat} {xs:List Int} (h:Byt w p n c xs) (i j:Nat) (hij:i≤j) (hj:j≤n) :
  Byt w (if c=i then p else p.map (·.add i)) (j - i) (c - i) ((xs.take j).drop i):=by
 have hl:=h.len
 have hcap:=h.cap
 refine ⟨by simp;omega,by omega,by have:=h.big;omega,rng_drop (rng_take h.rng _) _,fun hn=>?_⟩
 have hn':i<j:=by simp at hn;omega
 obtain ⟨b,o,rfl,hc⟩:=h.mem (by omega)
 rw [if_neg (by omega)]
 refine ⟨b,o+i,?_,fun k hk=>?_⟩
 ·simp [Addr.add]
 ·have hk':i+k<xs.length:=by simp at hk;omega
  have:=hc (i+k) hk'
  rw [Nat.add_assoc,this]
  congr 2
  rw [List.getD_eq_getElem?_getD,List.getD_eq_getElem?_getD,List.getElem?_drop,List.getElem?_take_of_lt (by simp at hk;omega)]
theorem Byt.front {w:World} {p:Option Addr} {n c:Nat} {xs:List Int} (h:Byt w p n c xs) (j:Nat) (hj:j≤n):Byt w p j c (xs.take j):=by
 have hl:=h.len
 refine ⟨by simp;omega,by have:=h.cap;omega,h.big,rng_take h.rng _,fun hn=>?_⟩
 obtain ⟨b,o,e,hc⟩:=h.at_ (by simp at hn;omega)
 refine ⟨b,o,e,fun i hi=>?_⟩
 have hi':i<j:=by simp at hi;omega
 rw [hc i (by omega)]
 simp [List.getD_eq_getElem?_getD,List.getElem?_take_of_lt hi']
theorem Byt.of_own {w:World} {base:Nat} {e:TypeId} {v:Value} {n:Nat} {xs:List Int} (h:w.ownsRow base e 1 v n (xs.map (Value.int .u8))) (hr : ∀ x∈xs,0≤x∧x≤255) :
  ∃ p c,v=.slice p n c∧Byt w p n c xs:=by
 have hl:xs.length=n:=by simpa using h.1
 rcases h.2 with ⟨rfl,rfl⟩ | ⟨g,cap,cur,rfl,hg,hh,hn,hc,hs,ht⟩
 ·obtain rfl:xs=[]:=List.eq_nil_of_length_eq_zero hl
  exact ⟨none,0,rfl,Byt.nil _ _ _ (Nat.zero_le _)⟩
 ·refine ⟨some ⟨g,0,none⟩,cap,rfl,hl,hn,hc,hr,fun hn'=>⟨g,0,rfl,fun i hi=>?_⟩⟩
  rw [Nat.zero_add,h.cellAt i (by omega)]
  simp [List.getD_eq_getElem?_getD,List.getElem?_eq_getElem hi]
theorem Byt.src {w:World} {a:Addr} {n c:Nat} {xs:List Int} (h:Byt w (some a) n c xs) (j:Nat) (u:Value) (hj:(xs.map (Value.int .u8))[j]?=some u):w.cell? (a.add j)=some u:=by
 have hl:j<xs.length:=by have:=(List.getElem?_eq_some_iff.1 hj).1;simpa using this
 obtain ⟨b,o,e,hc⟩:=h.mem (by omega)
 injection e with e
 subst e
 have:(⟨b,o,none⟩:Addr).add j=⟨b,o+j,none⟩:=by unfold Addr.add;split<;>simp_all
 rw [this,hc j hl]
 simp [List.getD_eq_getElem?_getD,List.getElem?_eq_getElem hl] at hj ⊢
 exact hj
theorem u8_one (xs:List Int) : ∀ u∈xs.map (Value.int .u8),u.oneCell'=true:=by
 intro u hu
 obtain ⟨x,_,rfl⟩:=List.mem_map.1 hu
 rfl
theorem bounds_u8' {n:Int} (h:(Lit.int .u8 n).wf=true):0≤n∧n≤255:=by
 simp [Lit.wf,IntKind.min,IntKind.max,IntKind.signed,IntKind.bits] at h
 omega
theorem opened {H:Type} {enc:TypeId × Value→H} {P:Program} {t e:TypeId} (ht:P.underlying t=some (.slice e)) (he:P.underlying e=some (.int .u8)) (hc:P.cellsOf e=1) (hb:P.bytesOf e=1)
  {W:World} {r:Reach} {b0:Nat} {v:Value} {d:DataW H} {q:List MemPlace} {ts:List TypeId} {ds:List (DataW H)} (j:Nat) (htj:ts[j]?=some t) (hdj:ds[j]?=some d)
  (hval:Value.okWide P W r b0 t v) (h0:DataW.Trod enc P W 0 (fun _=>true) true t v d q) (hz:(DataW.weightsEach P ts ds).all (·≤reachBytes)=true) :
  ∃ p n c xs,v=.slice p n c∧Byt W p n c xs∧c≤140737488351232:=by
 obtain ⟨p,n,c,rfl⟩:=okWide_slice ht hval
 obtain ⟨fuel,hf⟩:=h0
 rcases open_ints ht he hc hf with ⟨hcs,hx⟩ | ⟨a,len',cap',zs,hcs,_,hl,hm,hall,hx,hcell,hwz⟩
 ·simp [Value.cells] at hcs
  obtain ⟨rfl,rfl,rfl⟩:=hcs
  exact ⟨none,0,0,[],rfl,Byt.nil _ _ _ (Nat.zero_le _),Nat.zero_le _⟩
 ·simp [Value.cells] at hcs
  obtain ⟨rfl,rfl,rfl⟩:=hcs
  simp only [Prod.mk.injEq] at hx
  obtain ⟨rfl,rfl⟩:=hx
  simp only [if_true] at hall
  have hsz:=sized_slice hz (j:=j) (t:=t) (e:=e) htj hdj ht
  rw [hb] at hsz
  simp only [lits,List.length_map,List.length_take,List.length_drop,reachBytes] at hsz
  refine ⟨_,_,_,zs.take n,rfl,⟨by simp;omega,hl,hm,fun x hx=>bounds_u8' (hwz x (List.mem_of_mem_take hx)),fun hn=>?_⟩,by omega⟩
  have hp:0<zs.length:=by simp at hn;omega
  obtain ⟨b,o,s⟩:=a
  obtain rfl:s=none:=by simpa [Addr.add] using World.cell?_spot (hcell 0 hp)
  refine ⟨b,o,rfl,fun i hi=>?_⟩
  have hi':i<n:=by simp at hi;omega
  have:=hcell i (by omega)
  rw [add_plain] at this
  rw [this]
  simp [List.getD_eq_getElem?_getD,List.getElem?_take_of_lt hi']
theorem drew_below {w w':World} {B:Nat} (h : ∃ r,w'=w.drewN r):Below B w w':=by
 obtain ⟨r,rfl⟩:=h
 exact ⟨rfl,rfl,rfl,Nat.le_refl _,fun _ _=>rfl⟩
theorem two_byt {w:World} {g:Nat} {x y:Int} (hx:0≤x∧x≤255) (hy:0≤y∧y≤255) (h0:w.cell? ⟨g,0,none⟩=some (.int .u8 x)) (h1:w.cell? ⟨g,1,none⟩=some (.int .u8 y)):Byt w (some ⟨g,0,none⟩) 2 2 [x,y] :=
 ⟨rfl,Nat.le_refl _,by decide,fun z hz=>by
  simp at hz
  rcases hz with rfl | rfl
  ·exact hx
  ·exact hy,fun _=>⟨g,0,rfl,fun i hi=>by
  have:i=0∨i=1:=by simp at hi;omega
  rcases this with rfl | rfl
  ·exact h0
  ·exact h1⟩⟩
end Go.Proofs.YtgpigjoonhghhaaGreat

namespace Go.Proofs.YtgpigjoonhghhaaGreat
open Go.RowKit
def Own (w:World) (base:Nat) (e:TypeId) (v:Value) (xs:List Int):Prop:=w.ownsRow base e 1 v xs.length (xs.map (Value.int .u8))
theorem Own.nil (w:World) (base:Nat) (e:TypeId):Own w base e (.slice none 0 0) []:=World.ownsRow_nil w base e 1
theorem Own.alloc {w:World} {base:Nat} {e:TypeId} {v:Value} {xs:List Int} (h:Own w base e v xs) (o:Obj):Own (w.alloc o) base e v xs:=World.ownsRow.alloc h o
theorem Own.drew {w:World} {base:Nat} {e:TypeId} {v:Value} {xs:List Int} (h:Own w base e v xs):Own w.drew base e v xs:=h
theorem Own.byt {w:World} {base:Nat} {e:TypeId} {v:Value} {xs:List Int} (h:Own w base e v xs) (hr : ∀ x∈xs,0≤x∧x≤255) : ∃ p c,v=.slice p xs.length c∧Byt w p xs.length c xs:=Byt.of_own h hr
theorem Own.bytN {w:World} {base:Nat} {e:TypeId} {v:Value} {xs us:List Int} {N:Nat} (h:Own w base e v xs) (hu:xs=us) (hN:us.length=N) (hr : ∀ x∈us,0≤x∧x≤255) : ∃ p c,v=.slice p N c∧Byt w p N c us:=by
 subst hu
 subst hN
 exact h.byt hr
theorem Own.lt {w:World} {base:Nat} {e:TypeId} {v:Value} {xs:List Int} (h:Own w base e v xs) : ∀ k,v.ownBlock=some k→base≤k∧k<w.heap.size:=World.ownsRow.lt h
theorem Own.at_ {w:World} {base:Nat} {e:TypeId} {v:Value} {xs:List Int} (h:Own w base e v xs) {n:Nat} (hn:xs.length=n) (hp:0<n) :
  ∃ g c,v=.slice (some ⟨g,0,none⟩) n c∧base≤g∧g<w.heap.size∧(∀ j,j<n→w.cell? ⟨g,j,none⟩=some (.int .u8 (xs.getD j 0)))∧(∀ j,w.frozen? ⟨g,j,none⟩=false):=by
 subst hn
 have h0:=h
 rcases h.2 with ⟨rfl,hz⟩ | ⟨g,cap,cur,rfl,hb,hh,hn,hc,hs,ht⟩
 ·omega
 ·refine ⟨g,cap,rfl,hb,(Array.getElem?_eq_some_iff.1 hh).1,fun j hj=>?_,fun j=>World.ownsRow.frozenAt h0 j⟩
  rw [World.ownsRow.cellAt h0 j (by omega)]
  simp [List.getD_eq_getElem?_getD,List.getElem?_eq_getElem hj]
theorem Own.set {w:World} {base:Nat} {e:TypeId} {g n c:Nat} {xs:List Int} (h:Own w base e (.slice (some ⟨g,0,none⟩) n c) xs) (hn:xs.length=n) (j:Nat) (x:Int) :
  Own (w.setCell ⟨g,j,none⟩ (.int .u8 x)) base e (.slice (some ⟨g,0,none⟩) n c) (xs.set j x):=by
 subst hn
 have:=(World.ownsRow.stored h j (.int .u8 x)).1
 unfold Own
 rw [List.length_set,List.map_set]
 exact this
theorem Own.form {w:World} {base:Nat} {e:TypeId} {v:Value} {xs:List Int} (h:Own w base e v xs) : ∃ p c,v=.slice p xs.length c:=by
 rcases h.2 with ⟨rfl,hn⟩ | ⟨g,cap,cur,rfl,_⟩
 ·exact ⟨none,0,by rw [hn]⟩
 ·exact ⟨_,_,rfl⟩
theorem nob (b:Nat) : ∀ k,(Value.slice none 0 0).ownBlock=some k→b≤k:=fun k hk=>by simp [Value.ownBlock] at hk
section
variable {P:Program} (w:World)
theorem run_append_byt (base:Nat) (t ty e:TypeId) (i:TypeInfo) (z:Value) (ht:P.underlying t=some (.slice e)) (hi:P.info? e=some i) (hz:i.zero=some z)
  (hsize:i.size=1) (hby:i.bytes=1) (hzs:z.cells.size=1) (v:Value) (xs:List Int) (hown:Own w base e v xs)
  (p:Option Addr) (m c:Nat) (ys:List Int) (hy:Byt w p m c ys) (hb:xs.length+m≤140737488355328) (hbase:base≤w.heap.size) :
  ∃ v' w',(Builtin.append_ #[t,t] ty #[v,.slice p m c]).run P w=.ok v' w'∧Own w' base e v' (xs++ys)∧w.grownBy w' v.ownBlock:=by
 have hl:=hy.len
 cases p with
 | none =>
  have hm:m=0:=by
   rcases Nat.eq_zero_or_pos m with h0 | h0
   ·exact h0
   ·obtain ⟨b,o,h,_⟩:=hy.at_ h0
    cases h
  subst hm
  obtain rfl:ys=[]:=List.eq_nil_of_length_eq_zero hl
  refine ⟨v,w,?_,by rw [List.append_nil];exact hown,World.grownBy.refl w _⟩
  rcases hown.2 with ⟨rfl,hx⟩ | ⟨g,cap,cur,rfl,_,_,hnc,_⟩
  ·simp [Builtin.append_,run_underlying ht,sizeOf,typeInfo,hi,Builtin.lenOf,Builtin.firstCells]
  ·simp [Builtin.append_,run_underlying ht,sizeOf,typeInfo,hi,Builtin.lenOf,Builtin.firstCells,hnc,storeCells]
 | some a =>
  obtain ⟨v',w',hr,h2,h3,_⟩:=run_append_own (P:=P) w base t ty e i z 1 1 ht hi hz hsize hby hzs (by decide) v xs.length (xs.map (Value.int .u8)) hown a m c (ys.map (Value.int .u8)) (by simp [hl])
   (fun j u hj=>hy.src j u hj) (u8_one ys) (by unfold maxLen;omega) (by omega) hbase
  refine ⟨v',w',hr,?_,h3⟩
  unfold Own
  rw [List.length_append,List.map_append,hl]
  exact h2
theorem wp_append_byt {o:Oper} {a:Act} {K:Act→World→Prop} {Q:Exit→Act→World→Prop} (s x:Operand) (t:TypeId)
  (ho:o.op=.call { callee:=.builtin .append,args:=#[s,x],argTypes:=#[t,t] })
  (base:Nat) (e:TypeId) (i:TypeInfo) (z:Value) (ht:P.underlying t=some (.slice e)) (hi:P.info? e=some i) (hz:i.zero=some z)
  (hsize:i.size=1) (hby:i.bytes=1) (hzs:z.cells.size=1) (v:Value) (xs:List Int) (hs:a.eval s=v) (hown:Own w base e v xs)
  (p:Option Addr) (m c m':Nat) (ys:List Int) (hx:a.eval x=.slice p m c) (hy:Byt w p m' c ys) (hm:m=m') (hb:xs.length+m≤140737488355328) (hbase:base≤w.heap.size)
  (h : ∀ v' w',Own w' base e v' (xs++ys)→w.grownBy w' v.ownBlock→K (a.put o.dst v') w'):o.wp P a w K Q:=by
 subst hm
 obtain ⟨v',w',hr,h2,h3⟩:=run_append_byt (P:=P) w base t o.type e i z ht hi hz hsize hby hzs v xs hown p m c ys hy hb hbase
 unfold Oper.wp execOp
 simp only [ho,resolve,invoke,builtin,Sem.run_bind,Sem.run_pure,Result.andThen_ok,List.map_toArray,List.map_cons,List.map_nil,hs,hx,hr]
 exact h v' w' h2 h3
theorem wpList_append_byt {ops:Array Oper} {rest:List Oper} {o:Oper} {a:Act} {Q:Exit→Act→World→Prop} (hw:Region.wanted o (yielded ops a.tmps)=true) (s x:Operand) (t:TypeId)
  (ho:o.op=.call { callee:=.builtin .append,args:=#[s,x],argTypes:=#[t,t] })
  (base:Nat) (e:TypeId) (i:TypeInfo) (z:Value) (ht:P.underlying t=some (.slice e)) (hi:P.info? e=some i) (hz:i.zero=some z)
  (hsize:i.size=1) (hby:i.bytes=1) (hzs:z.cells.size=1) (v:Value) (xs:List Int) (hs:a.eval s=v) (hown:Own w base e v xs)
  (p:Option Addr) (m c m':Nat) (ys:List Int) (hx:a.eval x=.slice p m c) (hy:Byt w p m' c ys) (hm:m=m') (hb:xs.length+m≤140737488355328) (hbase:base≤w.heap.size)
  (h : ∀ v' w',Own w' base e v' (xs++ys)→w.grownBy w' v.ownBlock→wpList P ops Q rest (a.put o.dst v') w'):wpList P ops Q (o :: rest) a w:=by
 refine wpList_step fun K hK=>?_
 rw [if_pos hw]
 exact wp_append_byt w s x t ho base e i z ht hi hz hsize hby hzs v xs hs hown p m c m' ys hx hy hm hb hbase fun v' w' h2 h3=>hK _ _ (h v' w' h2 h3)
theorem step_append_byt {ops:Array Oper} {o:Oper} {a:Act} {K:Act→World→Prop} {Q:Exit→Act→World→Prop} {E:Prop} (hw:Region.wanted o (yielded ops a.tmps)=true) (s x:Operand) (t:TypeId)
  (ho:o.op=.call { callee:=.builtin .append,args:=#[s,x],argTypes:=#[t,t] })
  (base:Nat) (e:TypeId) (i:TypeInfo) (z:Value) (ht:P.underlying t=some (.slice e)) (hi:P.info? e=some i) (hz:i.zero=some z)
  (hsize:i.size=1) (hby:i.bytes=1) (hzs:z.cells.size=1) (v:Value) (xs:List Int) (hs:a.eval s=v) (hown:Own w base e v xs)
  (p:Option Addr) (m c m':Nat) (ys:List Int) (hx:a.eval x=.slice p m c) (hy:Byt w p m' c ys) (hm:m=m') (hb:xs.length+m≤140737488355328) (hbase:base≤w.heap.size)
  (h : ∀ v' w',Own w' base e v' (xs++ys)→w.grownBy w' v.ownBlock→K (a.put o.dst v') w') :
  if Region.wanted o (yielded ops a.tmps)=true then Oper.wp P o a w K Q else E:=by
 rw [if_pos hw]
 exact wp_append_byt w s x t ho base e i z ht hi hz hsize hby hzs v xs hs hown p m c m' ys hx hy hm hb hbase h
theorem one_byte (b:Nat) (x:Int) (hx:0≤x∧x≤255) (hc:w.cell? ⟨b,0,none⟩=some (.int .u8 x)):Byt w (some ⟨b,0,none⟩) 1 1 [x] :=
 ⟨rfl,Nat.le_refl _,by unfold maxLen;omega,fun y hy=>by simp at hy;omega,fun _=>⟨b,0,rfl,fun i hi=>by
  obtain rfl:i=0:=by simp at hi;omega
  exact hc⟩⟩
end
end Go.Proofs.YtgpigjoonhghhaaGreat

namespace Go.Proofs.YtgpigjoonhghhaaGreat
open Go.RowKit
set_option linter.unusedVariables false
theorem Tryz.infoByte:(Tryz.prog.info? 5).map (fun i=>(i.zero,i.size,i.bytes))=some (some (.int .u8 0),1,1):=by kernel_rfl
theorem Tryz.sizeByte:(Tryz.prog.info? 5).map (·.size)=some 1:=by kernel_rfl
theorem Own.made (w:World) (base:Nat) (e:TypeId) (hb:base≤w.heap.size):Own (w.alloc (.cells #[] e)) base e (.slice (some ⟨w.heap.size,0,none⟩) 0 0) [] :=
 World.ownsRow_made w #[] 0 hb (Nat.zero_le _) rfl
end Go.Proofs.YtgpigjoonhghhaaGreat

namespace Go.Proofs.YtgpigjoonhghhaaGreat
open Go.RowKit
set_option linter.unusedVariables false
structure Cod (W w:World) (k:Nat):Prop where
 base:W.heap.size≤k
 bel:Below W.heap.size W w
 free : ∀ j,w.frozen? ⟨k,j,none⟩=false
 list : ∃ p n c xs,∃ t:Nat,Byt W p n c xs∧t≤n∧w.cell? ⟨k,0,none⟩=some (.slice p n c)∧w.cell? ⟨k,1,none⟩=some (.int .i64 t)
theorem grown_trans {a b c:World} {row:Option Nat} (h:a.grownBy b row) (k:b.grownBy c row):a.grownBy c row :=
 ⟨k.os.trans h.os,k.tape.trans h.tape,k.output.trans h.output,Nat.le_trans h.size k.size,fun i hi hne=>(k.block i (Nat.lt_of_lt_of_le hi h.size) hne).trans (h.block i hi hne)⟩
theorem grown_refl (w:World) (row:Option Nat):w.grownBy w row:=⟨rfl,rfl,rfl,Nat.le_refl _,fun _ _ _=>rfl⟩
theorem grown_of_below {w w':World} (h:Below w.heap.size w w') (row:Option Nat):w.grownBy w' row:=⟨h.os,h.tape,h.output,h.size,fun i hi _=>h.block i hi⟩
theorem grown_drewN (w:World) (r:Nat) (row:Option Nat):w.grownBy (w.drewN r) row:=⟨rfl,rfl,rfl,Nat.le_refl _,fun _ _ _=>rfl⟩
theorem grown_set (w:World) (k j:Nat) (v:Value):w.grownBy (w.setCell ⟨k,j,none⟩ v) (some k) :=
 ⟨rfl,rfl,rfl,by simp [World.setCell],fun i hi hne=>Below.heap_setCell _ _ _ _ (by simp at hne;exact hne)⟩
theorem Cod.lt {W w:World} {k:Nat} (h:Cod W w k):k<w.heap.size:=by
 obtain ⟨p,n,c,xs,t,_,_,h0,_⟩:=h.list
 exact World.block_lt_of_cell? w _ h0
theorem Cod.grown {W w w':World} {k:Nat} {row:Option Nat} (h:Cod W w k) (hg:w.grownBy w' row) (hne:some k≠row) (hr : ∀ j,row=some j→W.heap.size≤j):Cod W w' k:=by
 have hk:=h.lt
 obtain ⟨p,n,c,xs,t,hb,ht,h0,h1⟩:=h.list
 exact ⟨h.base,h.bel.grown hg h.bel.size hr,fun j=>(World.frozen?_of_block (a:=⟨k,j,none⟩) (hg.block k hk hne)).trans (h.free j),p,n,c,xs,t,hb,ht,hg.cell h0 hne,hg.cell h1 hne⟩
theorem Cod.below {W w w':World} {k:Nat} (h:Cod W w k) (hb:Below w.heap.size w w'):Cod W w' k:=h.grown (row:=none) (grown_of_below hb none) (by simp) (by simp)
theorem left_at (k:Nat) (p:Option Addr) (n c t:Nat) (w:World) (h0:w.cell? ⟨k,0,none⟩=some (.slice p n c)) (h1:w.cell? ⟨k,1,none⟩=some (.int .i64 t)) (hn:n≤9223372036854775807) :
  Calls Tryz.prog 26 #[.pointer (some ⟨k,0,none⟩)] w fun e w'=>e=.returned (.bool (decide (t<n)))∧∃ r,w'=w.drewN r:=by
 go_enter Tryz.func26,Tryz.ntmps26
 go_wp2
 go_quiet (fail)
 go_wp2
 go_ret
 refine ⟨?_,_,rfl⟩
 simp
set_option maxHeartbeats 400000 in
theorem next_any (W w:World) (k:Nat) (h:Cod W w k) (m:Int) (hm:1≤m∧m≤9223372036854775807) :
  Calls Tryz.prog 10 #[.pointer (some ⟨k,0,none⟩),.int .i64 m] w fun e w'=>∃ r:Int,e=.returned (.int .i64 r)∧0≤r∧r<m∧Cod W w' k∧w.grownBy w' (some k):=by
 obtain ⟨p,n,c,xs,t,hb,ht,h0,h1⟩:=h.list
 have hle:=hb.le
 by_cases hlt:t<n
 ·obtain ⟨b,o,rfl,hc⟩:=hb.at_ (by omega)
  have hbl:=hb.lt (by omega)
  have hbase:=h.base
  have hfr:=h.free 1
  have hne:b≠k:=by omega
  have hx:=(cell_below h.bel _ _ (hc t hlt))
  have hr:=rng_getD hb.rng t
  generalize xs.getD t 0=x at hx hr
  have H:=hidden h
  have HB:=hidden hb
  have e2:x.tmod m=x % m:=Int.tmod_eq_emod_of_nonneg hr.1
  have e3:=Int.emod_nonneg x (show m≠0 by omega)
  have e4:=Int.emod_lt_of_pos x (show 0<m by omega)
  clear h hb hc
  go_enter Tryz.func10,Tryz.ntmps10
  go_wp2_with (go_at_call 26;refine (left_at k _ _ _ t _ h0 h1 (by omega)).mono ?_;rintro e w' ⟨rfl,r,rfl⟩)
  obtain ⟨w1,hw1⟩ : ∃ v,v=(w.drewN r).setCell ⟨k,1,none⟩ (.int .i64 (t+1)):=⟨_,rfl⟩
  rw [←hw1]
  have g0:w1.cell? ⟨k,0,none⟩=some (.slice (some ⟨b,o,none⟩) n c):=by rw [hw1];go_simp
  have g1:w1.cell? ⟨k,1,none⟩=some (.int .i64 (t+1)):=by rw [hw1];go_simp
  have gx:w1.cell? ⟨b,o+t,none⟩=some (.int .u8 x):=by rw [hw1];go_simp
  have gf : ∀ j,w1.frozen? ⟨k,j,none⟩=false:=fun j=>by rw [hw1,World.frozen?_setCell];exact H.out.free j
  have gg:w.grownBy w1 (some k):=by rw [hw1];exact grown_trans (grown_drewN w r _) (grown_set _ k 1 _)
  have HG:=hidden gg
  have HF:=hidden gf
  have HW:=hidden (show Cod W w1 k from ⟨hbase,H.out.bel.grown gg H.out.bel.size (by intro j hj;simp at hj;omega),gf,_,_,_,_,t+1,HB.out,by omega,g0,g1⟩)
  clear h0 h1 hx hw1 hfr gg gf
  go_quiet (fail)
  go_wp2
  go_ret
  exact ⟨x % m,rfl,e3,e4,HW.out.below (drew_below ⟨_,rfl⟩),grown_trans HG.out (grown_drewN _ _ _)⟩
 ·have H:=hidden h
  clear h hb
  go_enter Tryz.func10,Tryz.ntmps10
  go_wp2_with (go_at_call 26;refine (left_at k _ _ _ t _ h0 h1 (by omega)).mono ?_;rintro e w' ⟨rfl,r,rfl⟩)
  go_ret
  exact ⟨0,rfl,by omega,by omega,H.out.below (drew_below ⟨_,rfl⟩),grown_drewN _ _ _⟩
end Go.Proofs.YtgpigjoonhghhaaGreat

namespace Go.Proofs.YtgpigjoonhghhaaGreat
open Go.RowKit
set_option linter.unusedVariables false
theorem Cod.alloc {W w:World} {k:Nat} (h:Cod W w k) (o:Obj):Cod W (w.alloc o) k:=h.below ((Below.refl _ _).alloc (Nat.le_refl _) o)
theorem Cod.set {W w:World} {k:Nat} (h:Cod W w k) (g j:Nat) (v:Value) (hg:W.heap.size≤g) (hne:g≠k):Cod W (w.setCell ⟨g,j,none⟩ v) k :=
 h.grown (grown_set w g j v) (by simp;omega) (by simp;omega)
set_option maxHeartbeats 400000 in
theorem new_any (W:World) (p:Option Addr) (n c:Nat) (xs:List Int) (w:World) (h:Byt W p n c xs) (hb:Below W.heap.size W w) (m:Nat) (hm:m≤9223372036854775807) :
  Calls Tryz.prog 5 #[.slice p n c,.int .i64 m] w fun e w'=>e=.returned (.pointer (some ⟨w.heap.size,0,none⟩))∧Cod W w' w.heap.size∧Below w.heap.size w w':=by
 have hn:=h.le
 have hcap:=h.cap
 have hbig:=h.big
 have hs:=hb.size
 unfold maxLen at hbig
 have key : ∀ (w':World) p n c xs,Byt W p n c xs→w'=w.alloc (.cells #[.slice p n c,.int .i64 0] 66)→Cod W w' w.heap.size∧Below w.heap.size w w':=by
  intro w' p n c xs hx hw
  have hbb:=(Below.refl w.heap.size w).alloc (Nat.le_refl _) (.cells #[.slice p n c,.int .i64 0] 66)
  subst hw
  refine ⟨⟨hs,hb.alloc hs _,fun j=>by go_simp,p,n,c,xs,0,hx,Nat.zero_le _,by go_simp,by go_simp⟩,hbb⟩
 have HK:=hidden key
 have H:=hidden h
 clear key h hb
 by_cases hlt:m<n
 ·go_enter Tryz.func5,Tryz.ntmps5
  go_wp2
  go_ret
  exact ⟨rfl,HK.out _ _ _ _ _ (H.out.front m (by omega)) rfl⟩
 ·go_enter Tryz.func5,Tryz.ntmps5
  go_wp2
  go_ret
  exact ⟨rfl,HK.out _ _ _ _ _ H.out rfl⟩
end Go.Proofs.YtgpigjoonhghhaaGreat

namespace Go.Proofs.YtgpigjoonhghhaaGreat
open Go.RowKit
set_option linter.unusedVariables false
structure Bod (w:World) (base:Nat) (p:Option Addr) (n c:Nat) (xs:List Int):Prop where
 byt:Byt w p n c xs
 own:0<n→∃ b o cur fz,p=some ⟨b,o,none⟩∧base≤b∧w.heap[b]?=some (.cells cur 5 fz)
def OffB (w:World) (base:Nat) (row:Option Nat):Prop:=∀ r,row=some r→r<base∨∀ cur fz,w.heap[r]?≠some (.cells cur 5 fz)
theorem OffB.none (w:World) (base:Nat):OffB w base none:=fun r h=>by cases h
theorem OffB.low {w:World} {base k:Nat} (h:k<base):OffB w base (some k):=fun r hr=>by cases hr;exact Or.inl h
theorem Bod.grown {w w':World} {base:Nat} {p:Option Addr} {n c:Nat} {xs:List Int} {row:Option Nat} (h:Bod w base p n c xs) (hg:w.grownBy w' row) (hr:OffB w base row):Bod w' base p n c xs:=by
 rcases Nat.eq_zero_or_pos n with h0 | h0
 ·have hx:xs=[]:=List.eq_nil_of_length_eq_zero (h.byt.len.trans h0)
  subst h0 hx
  exact ⟨Byt.nil _ _ _ h.byt.big,fun h=>by omega⟩
 ·obtain ⟨b,o,cur,fz,rfl,hb,hh⟩:=h.own h0
  have hne:some b≠row:=by
   intro e
   rcases hr b e.symm with h1 | h1
   ·omega
   ·exact h1 _ _ hh
  have hlt:b<w.heap.size:=(Array.getElem?_eq_some_iff.1 hh).1
  have hblk:=hg.block b hlt hne
  refine ⟨⟨h.byt.len,h.byt.cap,h.byt.big,h.byt.rng,fun hn=>?_⟩,fun _=>⟨b,o,cur,fz,rfl,hb,hblk.trans hh⟩⟩
  obtain ⟨b',o',e,hc⟩:=h.byt.mem hn
  injection e with e
  injection e with e1 e2
  subst e1 e2
  exact ⟨b,o,rfl,fun i hi=>(World.cell?_of_block (a:=⟨b,o+i,none⟩) hblk).trans (hc i hi)⟩
theorem Bod.below {w w':World} {base:Nat} {p:Option Addr} {n c:Nat} {xs:List Int} (h:Bod w base p n c xs) (hb:Below w.heap.size w w'):Bod w' base p n c xs :=
 h.grown (row:=none) ⟨hb.os,hb.tape,hb.output,hb.size,fun i hi _=>hb.block i hi⟩ (OffB.none _ _)
theorem Bod.alloc {w:World} {base:Nat} {p:Option Addr} {n c:Nat} {xs:List Int} (h:Bod w base p n c xs) (o:Obj):Bod (w.alloc o) base p n c xs:=h.below ((Below.refl _ w).alloc (Nat.le_refl _) o)
theorem Bod.mono {w:World} {base base':Nat} {p:Option Addr} {n c:Nat} {xs:List Int} (h:Bod w base p n c xs) (hb:base'≤base):Bod w base' p n c xs :=
 ⟨h.byt,fun h0=>by
  obtain ⟨b,o,cur,fz,e,hb',hh⟩:=h.own h0
  exact ⟨b,o,cur,fz,e,by omega,hh⟩⟩
theorem Own.bod {w:World} {base:Nat} {v:Value} {xs:List Int} {n:Nat} (h:Own w base 5 v xs) (hl:xs.length=n) (hr : ∀ x∈xs,0≤x∧x≤255) : ∃ p c,v=.slice p n c∧Bod w base p n c xs:=by
 obtain ⟨p,c,rfl,hb⟩:=h.bytN rfl hl hr
 refine ⟨p,c,rfl,hb,fun h0=>?_⟩
 rcases h.2 with ⟨hv,hn⟩ | ⟨g,cap,cur,hv,hg,hh,_⟩
 ·omega
 ·simp at hv
  exact ⟨g,0,cur,(0,0),hv.1,hg,hh⟩
theorem Bod.nil (w:World) (base:Nat) (p:Option Addr) (c:Nat) (hc:c≤maxLen):Bod w base p 0 c []:=⟨Byt.nil _ _ _ hc,fun h=>by omega⟩
end Go.Proofs.YtgpigjoonhghhaaGreat

namespace Go.Proofs.YtgpigjoonhghhaaGreat
open Go.RowKit
set_option linter.unusedVariables false
theorem grown_set_new {a b:World} {row:Option Nat} (h:a.grownBy b row) (g j:Nat) (v:Value) (hg:a.heap.size≤g):a.grownBy (b.setCell ⟨g,j,none⟩ v) row :=
 ⟨h.os,h.tape,h.output,by simp [World.setCell];exact h.size,fun i hi hne=>(Below.heap_setCell _ _ _ _ (by simp;omega)).trans (h.block i hi hne)⟩
theorem grown_alloc_new {a b:World} {row:Option Nat} (h:a.grownBy b row) (o:Obj):a.grownBy (b.alloc o) row:=grown_trans h (World.grownBy_alloc b o row)
theorem grown_own {a b c:World} {row row':Option Nat} (h:a.grownBy b row) (hg:b.grownBy c row') (hr : ∀ j,row'=some j→a.heap.size≤j):a.grownBy c row :=
 ⟨hg.os.trans h.os,hg.tape.trans h.tape,hg.output.trans h.output,Nat.le_trans h.size hg.size,fun i hi hne=>(hg.block i (Nat.lt_of_lt_of_le hi h.size) (fun e=>by have:=hr i e.symm;omega)).trans (h.block i hi hne)⟩
theorem ints_at (w:World) (l:List Int) (T:TypeId) (j:Nat) (hj:j<l.length):(w.alloc (.cells (l.map (Value.int .i64)).toArray T)).cell? ⟨w.heap.size,j,none⟩=some (.int .i64 (l.getD j 0)):=by
 rw [World.cell?_alloc_at _ _ _ _ rfl]
 simp [List.getD_eq_getElem?_getD,List.getElem?_eq_getElem hj]
end Go.Proofs.YtgpigjoonhghhaaGreat

namespace Go.Proofs.YtgpigjoonhghhaaGreat
open Go.RowKit
set_option linter.unusedVariables false
structure Ad where
 f:Int
 h:Int
 l:Int
 deriving DecidableEq
structure Sl where
 p:Int
 a:Int
 b:Int
 lo:Ad
 hi:Ad
 deriving DecidableEq
def ltA (x y:Ad):Bool:=if x.f≠y.f then decide (x.f<y.f) else if x.h≠y.h then decide (x.h<y.h) else decide (x.l<y.l)
def validA (x:Ad):Bool:=decide (x.f=6) || (decide (x.f=4) && decide (x.h=0) && decide (x.l<4294967296))
structure FitA (x:Ad):Prop where
 f : -9223372036854775808≤x.f∧x.f≤9223372036854775807
 h:0≤x.h∧x.h≤18446744073709551615
 l:0≤x.l∧x.l≤18446744073709551615
structure FitS (x:Sl):Prop where
 p : -9223372036854775808≤x.p∧x.p≤9223372036854775807
 a : -9223372036854775808≤x.a∧x.a≤9223372036854775807
 b : -9223372036854775808≤x.b∧x.b≤9223372036854775807
 lo:FitA x.lo
 hi:FitA x.hi
def keyA (x:Ad):Int:=(x.f*18446744073709551616+x.h)*18446744073709551616+x.l
theorem key_lt {x y:Ad} (hx:FitA x) (hy:FitA y):ltA x y=decide (keyA x<keyA y):=by
 obtain ⟨_,h1,l1⟩:=hx
 obtain ⟨_,h2,l2⟩:=hy
 unfold ltA keyA
 split
 ·apply decide_eq_decide.2
  omega
 ·split
  ·apply decide_eq_decide.2
   omega
  ·apply decide_eq_decide.2
   omega
def portsOk (a b:Int):Bool:=(decide (a=65535) && decide (b=0)) || (decide (0≤a) && decide (a≤b) && decide (b≤65535))
def checkS (s:Sl):Int :=
 if validA s.lo=false∨validA s.hi=false∨s.lo.f≠s.hi.f then 15
 else if ltA s.hi s.lo=true∨s.p<0∨s.p > 255∨portsOk s.a s.b=false then 5 else 0
def spanP (s:Sl):Int × Int:=if s.a=65535∧s.b=0 then (-1,-1) else if s.a=0∧s.b=65535 then (-1,65535) else (s.a,s.b)
def fieldsP (lo hi:Int):Int × Int:=if hi = -1 then (65535,0) else if lo = -1 then (0,65535) else (lo,hi)
def withinA (x lo hi:Ad):Bool:=!ltA x lo && !ltA hi x
def hasS (s:Sl) (x:Ad) (p port:Int):Bool:=withinA x s.lo s.hi && (decide (s.p=0) || decide (s.p=p)) && decide ((spanP s).1≤port) && decide (port≤(spanP s).2)
def zeroA:Ad:=⟨0,0,0⟩
def zeroS:Sl:=⟨0,0,0,zeroA,zeroA⟩
def loM (a b:Sl):Ad:=if ltA a.lo b.lo=true then b.lo else a.lo
def hiM (a b:Sl):Ad:=if ltA b.hi a.hi=true then b.hi else a.hi
def prM (a b:Sl):Int:=if a.p=0 then b.p else a.p
def loP (a b:Sl):Int:=max (spanP a).1 (spanP b).1
def hiP (a b:Sl):Int:=min (spanP a).2 (spanP b).2
def meetS (a b:Sl):Sl × Bool :=
 if ltA (hiM a b) (loM a b)=true∨(b.p≠0∧b.p≠prM a b)∨hiP a b<loP a b then (zeroS,false)
 else (⟨prM a b,(fieldsP (loP a b) (hiP a b)).1,(fieldsP (loP a b) (hiP a b)).2,loM a b,hiM a b⟩,true)
def insideS (a b:Sl):Bool:=(meetS a b).2 && decide ((meetS a b).1=a)
structure GoodS (s:Sl):Prop where
 flo:FitA s.lo
 fhi:FitA s.hi
 vlo:validA s.lo=true
 vhi:validA s.hi=true
 fam:s.lo.f=s.hi.f
 le:keyA s.lo≤keyA s.hi
 p:0≤s.p∧s.p≤255
 q:(s.a=65535∧s.b=0)∨(0≤s.a∧s.a≤s.b∧s.b≤65535)
theorem GoodS.check {s:Sl} (h:GoodS s):checkS s=0:=by
 unfold checkS
 rw [key_lt h.fhi h.flo,h.vlo,h.vhi]
 have h1:=h.le
 have h2:=h.p
 have h3:=h.q
 have hp:portsOk s.a s.b=true:=by
  unfold portsOk
  simp
  omega
 rw [if_neg (by simp;exact h.fam),if_neg (by simp [hp];omega)]
theorem good_of_check {s:Sl} (f:FitS s) (h:checkS s=0):GoodS s:=by
 unfold checkS at h
 split at h
 ·cases h
 rename_i h1
 split at h
 ·cases h
 rename_i h2
 rw [key_lt f.hi f.lo] at h2
 have hp:portsOk s.a s.b=true:=by
  cases hh:portsOk s.a s.b
  ·exact absurd (Or.inr (Or.inr (Or.inr hh))) h2
  ·rfl
 have hl:validA s.lo=true:=by
  cases hh:validA s.lo
  ·exact absurd (Or.inl hh) h1
  ·rfl
 have hh:validA s.hi=true:=by
  cases hh:validA s.hi
  ·exact absurd (Or.inr (Or.inl hh)) h1
  ·rfl
 have hf:s.lo.f=s.hi.f:=by
  apply Classical.byContradiction
  intro k
  exact h1 (Or.inr (Or.inr k))
 unfold portsOk at hp
 simp only [Bool.or_eq_true,Bool.and_eq_true,decide_eq_true_eq] at hp h2
 exact ⟨f.lo,f.hi,hl,hh,hf,by omega,by omega,by omega⟩
theorem GoodS.fit {s:Sl} (h:GoodS s):FitS s:=by
 have h2:=h.p
 have h3:=h.q
 exact ⟨by omega,by omega,by omega,h.flo,h.fhi⟩
def OkP2 (l h:Int):Prop:=(l = -1∧h = -1)∨(l = -1∧h=65535)∨(0≤l∧l≤h∧h≤65535∧¬ (l=0∧h=65535))
structure MeetS (a b c:Sl):Prop where
 p:c.p=prM a b
 pb:b.p=0∨b.p=prM a b
 lo:keyA c.lo=max (keyA a.lo) (keyA b.lo)
 hi:keyA c.hi=min (keyA a.hi) (keyA b.hi)
 slo:c.lo=a.lo∨c.lo=b.lo
 shi:c.hi=a.hi∨c.hi=b.hi
 le:keyA c.lo≤keyA c.hi
 q1:(spanP c).1=max (spanP a).1 (spanP b).1
 q2:(spanP c).2=min (spanP a).2 (spanP b).2
 ok:OkP2 (spanP c).1 (spanP c).2
 fld:fieldsP (spanP c).1 (spanP c).2=(c.a,c.b)
def canMeet (a b:Sl):Prop:=max (keyA a.lo) (keyA b.lo)≤min (keyA a.hi) (keyA b.hi)∧(b.p=0∨b.p=prM a b)∧max (spanP a).1 (spanP b).1≤min (spanP a).2 (spanP b).2
theorem MeetS.good {a b c:Sl} (ha:GoodS a) (hb:GoodS b) (hf:a.lo.f=b.lo.f) (h:MeetS a b c):GoodS c:=by
 have hq:=h.ok
 have hfl:=h.fld
 have e1:=ha.fam
 have e2:=hb.fam
 refine ⟨?_,?_,?_,?_,?_,h.le,?_,?_⟩
 ·rcases h.slo with e | e<;>rw [e];exact ha.flo;exact hb.flo
 ·rcases h.shi with e | e<;>rw [e];exact ha.fhi;exact hb.fhi
 ·rcases h.slo with e | e<;>rw [e];exact ha.vlo;exact hb.vlo
 ·rcases h.shi with e | e<;>rw [e];exact ha.vhi;exact hb.vhi
 ·rcases h.slo with e | e<;>rcases h.shi with e' | e'<;>rw [e,e']<;>omega
 ·rw [h.p]
  unfold prM
  split
  ·exact hb.p
  ·exact ha.p
 ·unfold OkP2 at hq
  unfold fieldsP at hfl
  split at hfl
  ·simp at hfl;omega
  split at hfl
  ·simp at hfl;omega
  ·simp at hfl;omega
def pm (a b:Int):Int:=if a=0 then b else a
end Go.Proofs.YtgpigjoonhghhaaGreat

namespace Go.Proofs.YtgpigjoonhghhaaGreat
open Go.RowKit
set_option linter.unusedVariables false
structure KindR (α:Type) where
 e:TypeId
 k:Nat
 cs:α→List Value
 len : ∀ x,(cs x).length=k
 one : ∀ x,∀ u∈cs x,u.oneCell'=true
 pos:0<k
section
variable {α:Type} (K:KindR α)
def KindR.row (l:List α):List Value:=l.flatMap K.cs
theorem KindR.row_cons (x:α) (l:List α):K.row (x :: l)=K.cs x++K.row l:=rfl
theorem KindR.row_append (l r:List α):K.row (l++r)=K.row l++K.row r:=by simp [KindR.row]
theorem KindR.row_len (l:List α):(K.row l).length=l.length*K.k:=by
 induction l with
 | nil=>simp [KindR.row]
 | cons x l ih=>rw [K.row_cons,List.length_append,K.len,ih,List.length_cons,Nat.add_mul];omega
theorem KindR.row_one (l:List α) : ∀ u∈K.row l,u.oneCell'=true:=by
 intro u hu
 obtain ⟨x,_,h⟩:=List.mem_flatMap.1 hu
 exact K.one x u h
theorem KindR.row_get (l:List α) (j:Nat) (hj:j<l.length) (i:Nat) (u:Value) (hu:(K.cs l[j])[i]?=some u):(K.row l)[j*K.k+i]?=some u:=by
 induction l generalizing j with
 | nil=>simp at hj
 | cons x l ih =>
  have hi:i<K.k:=by have:=(List.getElem?_eq_some_iff.1 hu).1;rw [K.len] at this;exact this
  rw [K.row_cons]
  cases j with
  | zero =>
   rw [Nat.zero_mul,Nat.zero_add,List.getElem?_append_left (by rw [K.len];exact hi)]
   exact hu
  | succ j =>
   rw [List.getElem?_append_right (by rw [K.len,Nat.add_mul];omega),K.len,show (j+1)*K.k+i - K.k=j*K.k+i by rw [Nat.add_mul];omega]
   exact ih j (by simpa using hj) (by simpa using hu)
theorem KindR.row_set (l:List α) (j:Nat) (hj:j<l.length) (i:Nat) (hi:i<K.k) (u:Value) (y:α) (hy:K.cs y=(K.cs l[j]).set i u):K.row (l.set j y)=(K.row l).set (j*K.k+i) u:=by
 induction l generalizing j with
 | nil=>simp at hj
 | cons x l ih =>
  cases j with
  | zero =>
   rw [List.set_cons_zero,K.row_cons,K.row_cons,Nat.zero_mul,Nat.zero_add,List.set_append_left _ _ (by rw [K.len];exact hi),hy]
   rfl
  | succ j =>
   rw [List.set_cons_succ,K.row_cons,K.row_cons,List.set_append_right _ _ (by rw [K.len,Nat.add_mul];omega),K.len,show (j+1)*K.k+i - K.k=j*K.k+i by rw [Nat.add_mul];omega]
   rw [ih j (by simpa using hj) (by simpa using hy)]
end
def OffT (ts:List TypeId) (w:World) (base:Nat) (row:Option Nat):Prop:=∀ r,row=some r→r<base∨∀ cur e fz,w.heap[r]?=some (.cells cur e fz)→e ∉ ts
theorem OffT.none (ts:List TypeId) (w:World) (base:Nat):OffT ts w base none:=fun r h=>by cases h
theorem OffT.low {ts:List TypeId} {w:World} {base k:Nat} (h:k<base):OffT ts w base (some k):=fun r hr=>by cases hr;exact Or.inl h
theorem OffT.sub {ts us:List TypeId} {w:World} {base:Nat} {row:Option Nat} (h:OffT ts w base row) (hs : ∀ t∈us,t∈ts):OffT us w base row:=fun r hr=>by
 rcases h r hr with h | h
 ·exact Or.inl h
 ·exact Or.inr (fun cur e fz hh hm=>h cur e fz hh (hs e hm))
theorem OffT.of_type {ts:List TypeId} {w:World} {base r:Nat} {cur:Array Value} {e:TypeId} {fz:Nat × Nat} (h:w.heap[r]?=some (.cells cur e fz)) (he:e ∉ ts):OffT ts w base (some r):=fun r' hr=>by
 cases hr
 exact Or.inr (fun cur' e' fz' h'=>by rw [h] at h';simp at h';rw [←h'.2.1];exact he)
structure NestR (α:Type) where
 ts:List TypeId
 ok:World→Nat→α→Prop
 keep : ∀ {w w':World} {base:Nat} {row:Option Nat} {x:α},ok w base x→w.grownBy w' row→OffT ts w base row→ok w' base x
 mono : ∀ {w:World} {base base':Nat} {x:α},ok w base x→base'≤base→ok w base' x
structure RowG {α:Type} (K:KindR α) (N:NestR α) (w:World) (base:Nat) (v:Value) (l:List α):Prop where
 own:w.ownsRow base K.e K.k v l.length (K.row l)
 ok : ∀ x∈l,N.ok w base x
section
variable {α:Type} {K:KindR α} {N:NestR α} {w w':World} {base:Nat} {v:Value} {l:List α}
theorem RowG.nil (K:KindR α) (N:NestR α) (w:World) (base:Nat):RowG K N w base (.slice none 0 0) []:=⟨World.ownsRow_nil w base K.e K.k,fun x hx=>by cases hx⟩
theorem RowG.mono {base':Nat} (h:RowG K N w base v l) (hb:base'≤base):RowG K N w base' v l:=by
 refine ⟨⟨h.own.1,?_⟩,fun x hx=>N.mono (h.ok x hx) hb⟩
 rcases h.own.2 with h1 | ⟨g,cap,cur,hv,hg,rest⟩
 ·exact Or.inl h1
 ·exact Or.inr ⟨g,cap,cur,hv,by omega,rest⟩
theorem RowG.lt (h:RowG K N w base v l) : ∀ k,v.ownBlock=some k→base≤k∧k<w.heap.size:=World.ownsRow.lt h.own
theorem RowG.grown {row:Option Nat} (h:RowG K N w base v l) (hg:w.grownBy w' row) (hne : ∀ r,row=some r→v.ownBlock≠some r) (hr:OffT N.ts w base row):RowG K N w' base v l :=
 ⟨World.ownsRow.kept h.own hg (by
  rcases hv:v.ownBlock with _ | b
  ·exact Or.inl rfl
  ·refine Or.inr ?_
   intro e
   rcases hrow:row with _ | r
   ·rw [hrow] at e;cases e
   ·rw [hrow] at e
    cases e
    exact hne _ hrow hv),fun x hx=>N.keep (h.ok x hx) hg hr⟩
theorem RowG.low {k:Nat} (h:RowG K N w base v l) (hg:w.grownBy w' (some k)) (hk:k<base):RowG K N w' base v l :=
 h.grown hg (fun r hr e=>by cases hr;have:=(h.lt k e).1;omega) (OffT.low hk)
theorem RowG.below (h:RowG K N w base v l) (hb:Below w.heap.size w w'):RowG K N w' base v l :=
 h.grown (row:=none) ⟨hb.os,hb.tape,hb.output,hb.size,fun i hi _=>hb.block i hi⟩ (fun r hr=>by cases hr) (OffT.none _ _ _)
theorem RowG.alloc (h:RowG K N w base v l) (o:Obj):RowG K N (w.alloc o) base v l:=h.below ((Below.refl _ w).alloc (Nat.le_refl _) o)
theorem RowG.offT {ts:List TypeId} {base':Nat} (h:RowG K N w base v l) (he:K.e ∉ ts):OffT ts w base' v.ownBlock:=fun r hr=>by
 rcases h.own.2 with ⟨rfl,_⟩ | ⟨g,cap,cur,rfl,hg,hh,_⟩
 ·simp [Value.ownBlock] at hr
 ·simp [Value.ownBlock] at hr
  subst hr
  exact OffT.of_type hh he g rfl
theorem RowG.form (h:RowG K N w base v l) {n:Nat} (hn:l.length=n) : ∃ p c,v=.slice p n c:=by
 subst hn
 rcases h.own.2 with ⟨rfl,h0⟩ | ⟨g,cap,cur,rfl,_⟩
 ·exact ⟨none,0,by rw [h0]⟩
 ·exact ⟨_,_,rfl⟩
theorem RowG.at_ (h:RowG K N w base v l) {n:Nat} (hn:l.length=n) (hp:0<n) :
  ∃ g c,v=.slice (some ⟨g,0,none⟩) n c∧n≤c∧c≤maxLen∧base≤g∧g<w.heap.size∧(∀ j u,(K.row l)[j]?=some u→w.cell? ⟨g,j,none⟩=some u)∧(∀ j,w.frozen? ⟨g,j,none⟩=false):=by
 subst hn
 have h0:=h.own
 rcases h.own.2 with ⟨rfl,hz⟩ | ⟨g,cap,cur,rfl,hb,hh,hnc,hm,hs,ht⟩
 ·omega
 ·refine ⟨g,cap,rfl,hnc,hm,hb,(Array.getElem?_eq_some_iff.1 hh).1,fun j u hj=>?_,fun j=>World.ownsRow.frozenAt h0 j⟩
  have:=World.ownsRow.cells h0 (g:=g) rfl j u hj
  rw [WideShapes.add_plain,Nat.zero_add] at this
  exact this
theorem RowG.set {g n c:Nat} (h:RowG K N w base (.slice (some ⟨g,0,none⟩) n c) l) (j:Nat) (hj:j<l.length) (i:Nat) (hi:i<K.k) (u:Value) (y:α) (hy:K.cs y=(K.cs l[j]).set i u) (hn:l.length=n) (he:K.e ∉ N.ts)
  (hok:N.ok (w.setCell ⟨g,j*K.k+i,none⟩ u) base y):RowG K N (w.setCell ⟨g,j*K.k+i,none⟩ u) base (.slice (some ⟨g,0,none⟩) n c) (l.set j y):=by
 subst hn
 have hg:w.grownBy (w.setCell ⟨g,j*K.k+i,none⟩ u) (some g):=⟨rfl,rfl,rfl,by simp [World.setCell],fun i hi hne=>Below.heap_setCell _ _ _ _ (by simp at hne;exact hne)⟩
 refine ⟨?_,fun x hx=>?_⟩
 ·have:=(World.ownsRow.stored h.own (j*K.k+i) u).1
  rw [List.length_set,K.row_set l j hj i hi u y hy]
  exact this
 ·rcases List.mem_or_eq_of_mem_set hx with hx | rfl
  ·exact N.keep (h.ok x hx) hg (by have:=h.offT (ts:=N.ts) (base':=base) he;simpa [Value.ownBlock] using this)
  ·exact hok
end
def SrcG {α:Type} (K:KindR α) (w:World) (p:Option Addr) (m:Nat) (r:List α):Prop:=r.length=m∧(0<m→∃ ad,p=some ad∧∀ j u,(K.row r)[j]?=some u→w.cell? (ad.add j)=some u)
theorem RowG.src {α:Type} {K:KindR α} {N:NestR α} {w:World} {base:Nat} {p:Option Addr} {m c:Nat} {l:List α} (h:RowG K N w base (.slice p m c) l):SrcG K w p m l:=by
 obtain ⟨p',c',e⟩:=h.form rfl
 simp at e
 obtain ⟨rfl,rfl,rfl⟩:=e
 refine ⟨rfl,fun h0=>?_⟩
 obtain ⟨g,c',hv,_,_,_,_,hc,_⟩:=h.at_ rfl h0
 simp at hv
 obtain ⟨rfl,rfl⟩:=hv
 exact ⟨_,rfl,fun j u hj=>by rw [WideShapes.add_plain,Nat.zero_add];exact hc j u hj⟩
theorem SrcG.new {α:Type} (K:KindR α) (w:World) (r:List α) (T:TypeId):SrcG K (w.alloc (.cells (K.row r).toArray T)) (some ⟨w.heap.size,0,none⟩) r.length r :=
 ⟨rfl,fun _=>⟨_,rfl,fun j u hj=>by
  rw [WideShapes.add_plain,Nat.zero_add,World.cell?_alloc_at _ _ _ _ rfl]
  simpa using hj⟩⟩
structure KnownR {α:Type} (P:Program) (K:KindR α) (t:TypeId) (bytes:Nat):Prop where
 under:P.underlying t=some (.slice K.e)
 info : ∃ i z,P.info? K.e=some i∧i.zero=some z∧i.size=K.k∧i.bytes=bytes∧z.cells.size=K.k
section
variable {α:Type} {P:Program} {K:KindR α} {N:NestR α} {t:TypeId} {bytes:Nat}
theorem run_append_g (hk:KnownR P K t bytes) (he:K.e ∉ N.ts) (w:World) (base:Nat) (ty:TypeId) (v:Value) (l:List α) (h:RowG K N w base v l) (p:Option Addr) (m c:Nat) (r:List α) (hs:SrcG K w p m r) (hr : ∀ x∈r,N.ok w base x)
  (h63:l.length+m≤maxLen) (hbytes:(l.length+m)*bytes≤140737488355328) (hbase:base≤w.heap.size) :
  ∃ v' w',(Builtin.append_ #[t,t] ty #[v,.slice p m c]).run P w=.ok v' w'∧RowG K N w' base v' (l++r)∧w.grownBy w' v.ownBlock:=by
 obtain ⟨i0,z,hi,hz0,hz1,hz2,hz3⟩:=hk.info
 have ht:=hk.under
 have key : ∀ {w':World},w.grownBy w' v.ownBlock→∀ x∈l++r,N.ok w' base x:=fun hg x hx=>by
  rcases List.mem_append.1 hx with hx | hx
  ·exact N.keep (h.ok x hx) hg (h.offT he)
  ·exact N.keep (hr x hx) hg (h.offT he)
 cases p with
 | none =>
  have hm:m=0:=by
   rcases Nat.eq_zero_or_pos m with h0 | h0
   ·exact h0
   ·obtain ⟨ad,e,_⟩:=hs.2 h0
    cases e
  subst hm
  obtain rfl:r=[]:=List.eq_nil_of_length_eq_zero hs.1
  refine ⟨v,w,?_,by rw [List.append_nil];exact h,World.grownBy.refl w _⟩
  rcases h.own.2 with ⟨rfl,hx⟩ | ⟨g,cap,cur,rfl,_,_,hnc,_⟩
  ·simp [Builtin.append_,run_underlying ht,sizeOf,typeInfo,hi,Builtin.lenOf,Builtin.firstCells]
  ·simp [Builtin.append_,run_underlying ht,sizeOf,typeInfo,hi,Builtin.lenOf,Builtin.firstCells,hnc,storeCells]
 | some a =>
  have hcells : ∀ j u,(K.row r)[j]?=some u→w.cell? (a.add j)=some u:=by
   intro j u hj
   rcases Nat.eq_zero_or_pos m with h0 | h0
   ·have:r=[]:=List.eq_nil_of_length_eq_zero (hs.1.trans h0)
    subst this
    simp [KindR.row] at hj
   ·obtain ⟨ad,e,hc⟩:=hs.2 h0
    cases e
    exact hc j u hj
  obtain ⟨v',w',hrun,h2,h3,_⟩:=run_append_own (P:=P) w base t ty K.e i0 z K.k bytes ht hi hz0 hz1 hz2 hz3 K.pos v l.length (K.row l) h.own a m c (K.row r) (by rw [K.row_len,hs.1])
   hcells (K.row_one r) h63 hbytes hbase
  refine ⟨v',w',hrun,⟨?_,key h3⟩,h3⟩
  rw [List.length_append,K.row_append,hs.1]
  exact h2
theorem wp_append_g (hk:KnownR P K t bytes) (he:K.e ∉ N.ts) (w:World) {o:Oper} {a:Act} {C:Act→World→Prop} {Q:Exit→Act→World→Prop} (s x:Operand)
  (ho:o.op=.call { callee:=.builtin .append,args:=#[s,x],argTypes:=#[t,t] })
  (base:Nat) (v:Value) (l:List α) (hs:a.eval s=v) (hv:RowG K N w base v l)
  (p:Option Addr) (m c:Nat) (r:List α) (hx:a.eval x=.slice p m c) (hsrc:SrcG K w p m r) (hr : ∀ x∈r,N.ok w base x) (h63:l.length+m≤maxLen) (hbytes:(l.length+m)*bytes≤140737488355328) (hbase:base≤w.heap.size)
  (h : ∀ v' w',RowG K N w' base v' (l++r)→w.grownBy w' v.ownBlock→C (a.put o.dst v') w'):o.wp P a w C Q:=by
 obtain ⟨v',w',hrun,h2,h3⟩:=run_append_g hk he w base o.type v l hv p m c r hsrc hr h63 hbytes hbase
 unfold Oper.wp execOp
 simp only [ho,resolve,invoke,builtin,Sem.run_bind,Sem.run_pure,Result.andThen_ok,List.map_toArray,List.map_cons,List.map_nil,hs,hx,hrun]
 exact h v' w' h2 h3
theorem wpList_append_g (hk:KnownR P K t bytes) (he:K.e ∉ N.ts) (w:World) {ops:Array Oper} {rest:List Oper} {o:Oper} {a:Act} {Q:Exit→Act→World→Prop} (hw:Region.wanted o (yielded ops a.tmps)=true) (s x:Operand)
  (ho:o.op=.call { callee:=.builtin .append,args:=#[s,x],argTypes:=#[t,t] })
  (base:Nat) (v:Value) (l:List α) (hs:a.eval s=v) (hv:RowG K N w base v l)
  (p:Option Addr) (m c:Nat) (r:List α) (hx:a.eval x=.slice p m c) (hsrc:SrcG K w p m r) (hr : ∀ x∈r,N.ok w base x) (h63:l.length+m≤maxLen) (hbytes:(l.length+m)*bytes≤140737488355328) (hbase:base≤w.heap.size)
  (h : ∀ v' w',RowG K N w' base v' (l++r)→w.grownBy w' v.ownBlock→wpList P ops Q rest (a.put o.dst v') w'):wpList P ops Q (o :: rest) a w:=by
 refine wpList_step fun C hC=>?_
 rw [if_pos hw]
 exact wp_append_g hk he w s x ho base v l hs hv p m c r hx hsrc hr h63 hbytes hbase fun v' w' h2 h3=>hC _ _ (h v' w' h2 h3)
theorem step_append_g (hk:KnownR P K t bytes) (he:K.e ∉ N.ts) (w:World) {ops:Array Oper} {o:Oper} {a:Act} {C:Act→World→Prop} {Q:Exit→Act→World→Prop} {E:Prop} (hw:Region.wanted o (yielded ops a.tmps)=true) (s x:Operand)
  (ho:o.op=.call { callee:=.builtin .append,args:=#[s,x],argTypes:=#[t,t] })
  (base:Nat) (v:Value) (l:List α) (hs:a.eval s=v) (hv:RowG K N w base v l)
  (p:Option Addr) (m c:Nat) (r:List α) (hx:a.eval x=.slice p m c) (hsrc:SrcG K w p m r) (hr : ∀ x∈r,N.ok w base x) (h63:l.length+m≤maxLen) (hbytes:(l.length+m)*bytes≤140737488355328) (hbase:base≤w.heap.size)
  (h : ∀ v' w',RowG K N w' base v' (l++r)→w.grownBy w' v.ownBlock→C (a.put o.dst v') w'):if Region.wanted o (yielded ops a.tmps)=true then Oper.wp P o a w C Q else E:=by
 rw [if_pos hw]
 exact wp_append_g hk he w s x ho base v l hs hv p m c r hx hsrc hr h63 hbytes hbase h
end
structure ReadN (α:Type) where
 ok:World→α→Prop
 keep : ∀ {w w':World} {x:α},ok w x→(∀ a v,w.cell? a=some v→w'.cell? a=some v)→ok w' x
structure RdG {α:Type} (K:KindR α) (D:ReadN α) (w:World) (p:Option Addr) (n c:Nat) (l:List α):Prop where
 len:l.length=n
 cap:n≤c
 big:c≤maxLen
 mem:0<n→∃ g,p=some ⟨g,0,none⟩∧∀ j u,(K.row l)[j]?=some u→w.cell? ⟨g,j,none⟩=some u
 ok : ∀ x∈l,D.ok w x
section
variable {α:Type} {K:KindR α} {D:ReadN α} {w w':World} {p:Option Addr} {n c:Nat} {l:List α}
theorem RdG.keep (h:RdG K D w p n c l) (hk : ∀ a v,w.cell? a=some v→w'.cell? a=some v):RdG K D w' p n c l :=
 ⟨h.len,h.cap,h.big,fun h0=>by
  obtain ⟨g,e,hc⟩:=h.mem h0
  exact ⟨g,e,fun j u hj=>hk _ _ (hc j u hj)⟩,fun x hx=>D.keep (h.ok x hx) hk⟩
theorem RdG.below (h:RdG K D w p n c l) (hb:Below w.heap.size w w'):RdG K D w' p n c l:=h.keep (cell_below hb)
theorem RdG.le (h:RdG K D w p n c l):n≤9223372036854775807:=by
 have h1:=h.cap
 have h2:=h.big
 unfold maxLen at h2
 omega
theorem RdG.cell (h:RdG K D w p n c l) (j:Nat) (hj:j<l.length) : ∃ g,p=some ⟨g,0,none⟩∧(∀ i u,(K.cs l[j])[i]?=some u→w.cell? ⟨g,j*K.k+i,none⟩=some u)∧D.ok w l[j]:=by
 obtain ⟨g,e,hc⟩:=h.mem (by have:=h.len;omega)
 exact ⟨g,e,fun i u hi=>hc _ _ (K.row_get l j hj i u hi),h.ok _ (List.getElem_mem hj)⟩
theorem RowG.rd {N:NestR α} {base:Nat} {v:Value} (h:RowG K N w base v l) {n:Nat} (hn:l.length=n) (hd : ∀ x,N.ok w base x→D.ok w x) : ∃ p c,v=.slice p n c∧RdG K D w p n c l:=by
 subst hn
 have hok : ∀ x∈l,D.ok w x:=fun x hx=>hd x (h.ok x hx)
 rcases h.own.2 with ⟨rfl,h0⟩ | ⟨g,cap,cur,rfl,hg,hh,hnc,hm,hs,ht⟩
 ·exact ⟨none,0,by rw [h0],rfl,by omega,by unfold maxLen;omega,fun h=>by omega,hok⟩
 ·refine ⟨_,_,rfl,rfl,hnc,hm,fun h0=>⟨g,rfl,fun j u hj=>?_⟩,hok⟩
  have:=World.ownsRow.cells h.own (g:=g) rfl j u hj
  rw [WideShapes.add_plain,Nat.zero_add] at this
  exact this
theorem RdG.new (K:KindR α) (D:ReadN α) (w:World) (l:List α) (T:TypeId) (hl:l.length≤maxLen) (hd : ∀ x∈l,D.ok w x):RdG K D (w.alloc (.cells (K.row l).toArray T)) (some ⟨w.heap.size,0,none⟩) l.length l.length l :=
 ⟨rfl,Nat.le_refl _,hl,fun _=>⟨_,rfl,fun j u hj=>by
  rw [World.cell?_alloc_at _ _ _ _ rfl]
  simpa using hj⟩,fun x hx=>D.keep (hd x hx) (cell_below ((Below.refl _ w).alloc (Nat.le_refl _) _))⟩
theorem RdG.src (h:RdG K D w p n c l):SrcG K w p n l :=
 ⟨h.len,fun h0=>by
  obtain ⟨g,e,hc⟩:=h.mem h0
  exact ⟨_,e,fun j u hj=>by rw [WideShapes.add_plain,Nat.zero_add];exact hc j u hj⟩⟩
theorem RdG.front (h:RdG K D w p n c l) (j:Nat) (hj:j≤n):RdG K D w p j c (l.take j):=by
 have hl:=h.len
 refine ⟨by simp;omega,by have:=h.cap;omega,h.big,fun h0=>?_,fun x hx=>h.ok x (List.mem_of_mem_take hx)⟩
 obtain ⟨g,e,hc⟩:=h.mem (by omega)
 refine ⟨g,e,fun i u hi=>hc i u ?_⟩
 have h2:K.row l=K.row (l.take j)++K.row (l.drop j):=by rw [←K.row_append,List.take_append_drop]
 rw [h2,List.getElem?_append_left (List.getElem?_eq_some_iff.1 hi).1]
 exact hi
end
end Go.Proofs.YtgpigjoonhghhaaGreat

namespace Go.Proofs.YtgpigjoonhghhaaGreat
set_option linter.unusedVariables false
structure Tr where
 t:Int
 i:Int
 k:Int
 deriving DecidableEq
structure Pr where
 n:Int
 p:Int
 s:List Int
 ts:List Tr
 deriving DecidableEq
def w2 (xs:List Int) (a:Nat):Int:=xs.getD a 0*256+xs.getD (a+1) 0
def attrV (xs:List Int):Int × Bool:=if xs.length=0 then (0,true) else if xs.length≠4∨w2 xs 0≠32782∨w2 xs 2=0 then (0,false) else (w2 xs 2,true)
def trsF:Nat→List Int→Option (List Tr)
 | 0,xs=>if xs.length=0 then some [] else none
 | f+1,xs=>if xs.length=0 then some [] else if xs.length<8 then none else if w2 xs 2<8∨(xs.length:Int)<w2 xs 2 then none
  else if xs.getD 0 0≠(if (xs.length:Int)=w2 xs 2 then 0 else 3)∨(attrV ((xs.drop 8).take ((w2 xs 2).toNat - 8))).2=false then none
  else (trsF f (xs.drop (w2 xs 2).toNat)).map (⟨xs.getD 4 0,w2 xs 6,(attrV ((xs.drop 8).take ((w2 xs 2).toNat - 8))).1⟩ :: ·)
def trsV (xs:List Int):Option (List Tr):=trsF xs.length xs
def prsF:Nat→List Int→Option (List Pr)
 | 0,xs=>if xs.length=0 then some [] else none
 | f+1,xs=>if xs.length=0 then some [] else if xs.length<8 then none else if w2 xs 2<8∨(xs.length:Int)<w2 xs 2 then none
  else if xs.getD 0 0≠(if (xs.length:Int)=w2 xs 2 then 0 else 2)∨w2 xs 2<8+xs.getD 6 0 then none
  else match trsV ((xs.take (w2 xs 2).toNat).drop (8+(xs.getD 6 0).toNat)) with
   | none=>none
   | some ts=>if (ts.length:Int)≠xs.getD 7 0 then none
    else (prsF f (xs.drop (w2 xs 2).toNat)).map (⟨xs.getD 4 0,xs.getD 5 0,(xs.drop 8).take (xs.getD 6 0).toNat,ts⟩ :: ·)
def prsV (xs:List Int):Option (List Pr):=prsF xs.length xs
theorem trsF_fuel : ∀ (f g:Nat) (xs:List Int),xs.length≤f→xs.length≤g→trsF f xs=trsF g xs
 | 0,g,xs,h,_=>by
  have h0:xs.length=0:=by omega
  cases g<;>simp [trsF,h0]
 | f+1,0,xs,_,h=>by
  have h0:xs.length=0:=by omega
  simp [trsF,h0]
 | f+1,g+1,xs,h1,h2=>by
  rw [trsF,trsF]
  by_cases h0:xs.length=0
  ·rw [if_pos h0,if_pos h0]
  by_cases h8:xs.length<8
  ·rw [if_neg h0,if_neg h0,if_pos h8,if_pos h8]
  by_cases hn:w2 xs 2<8∨(xs.length:Int)<w2 xs 2
  ·rw [if_neg h0,if_neg h0,if_neg h8,if_neg h8,if_pos hn,if_pos hn]
  rw [if_neg h0,if_neg h0,if_neg h8,if_neg h8,if_neg hn,if_neg hn,trsF_fuel f g _ (by rw [List.length_drop];omega) (by rw [List.length_drop];omega)]
theorem prsF_fuel : ∀ (f g:Nat) (xs:List Int),xs.length≤f→xs.length≤g→prsF f xs=prsF g xs
 | 0,g,xs,h,_=>by
  have h0:xs.length=0:=by omega
  cases g<;>simp [prsF,h0]
 | f+1,0,xs,_,h=>by
  have h0:xs.length=0:=by omega
  simp [prsF,h0]
 | f+1,g+1,xs,h1,h2=>by
  rw [prsF,prsF]
  by_cases h0:xs.length=0
  ·rw [if_pos h0,if_pos h0]
  by_cases h8:xs.length<8
  ·rw [if_neg h0,if_neg h0,if_pos h8,if_pos h8]
  by_cases hn:w2 xs 2<8∨(xs.length:Int)<w2 xs 2
  ·rw [if_neg h0,if_neg h0,if_neg h8,if_neg h8,if_pos hn,if_pos hn]
  rw [if_neg h0,if_neg h0,if_neg h8,if_neg h8,if_neg hn,if_neg hn,prsF_fuel f g _ (by rw [List.length_drop];omega) (by rw [List.length_drop];omega)]
theorem trsV_nil (xs:List Int) (h:xs.length=0):trsV xs=some []:=by
 rw [trsV,h,trsF,if_pos h]
theorem prsV_nil (xs:List Int) (h:xs.length=0):prsV xs=some []:=by
 rw [prsV,h,prsF,if_pos h]
theorem trsV_step (xs:List Int) (h:xs.length≠0):trsV xs=if xs.length<8 then none else if w2 xs 2<8∨(xs.length:Int)<w2 xs 2 then none
  else if xs.getD 0 0≠(if (xs.length:Int)=w2 xs 2 then 0 else 3)∨(attrV ((xs.drop 8).take ((w2 xs 2).toNat - 8))).2=false then none
  else (trsV (xs.drop (w2 xs 2).toNat)).map (⟨xs.getD 4 0,w2 xs 6,(attrV ((xs.drop 8).take ((w2 xs 2).toNat - 8))).1⟩ :: ·):=by
 obtain ⟨m,hm⟩ : ∃ m,xs.length=m+1:=⟨xs.length - 1,by omega⟩
 rw [trsV,trsF_fuel xs.length (m+1) xs (by omega) (by omega),trsF,if_neg h]
 by_cases h8:xs.length<8
 ·rw [if_pos h8,if_pos h8]
 by_cases hn:w2 xs 2<8∨(xs.length:Int)<w2 xs 2
 ·rw [if_neg h8,if_neg h8,if_pos hn,if_pos hn]
 rw [if_neg h8,if_neg h8,if_neg hn,if_neg hn,trsV,trsF_fuel m _ _ (by rw [List.length_drop];omega) (Nat.le_refl _)]
theorem prsV_step (xs:List Int) (h:xs.length≠0):prsV xs=if xs.length<8 then none else if w2 xs 2<8∨(xs.length:Int)<w2 xs 2 then none
  else if xs.getD 0 0≠(if (xs.length:Int)=w2 xs 2 then 0 else 2)∨w2 xs 2<8+xs.getD 6 0 then none
  else match trsV ((xs.take (w2 xs 2).toNat).drop (8+(xs.getD 6 0).toNat)) with
   | none=>none
   | some ts=>if (ts.length:Int)≠xs.getD 7 0 then none
    else (prsV (xs.drop (w2 xs 2).toNat)).map (⟨xs.getD 4 0,xs.getD 5 0,(xs.drop 8).take (xs.getD 6 0).toNat,ts⟩ :: ·):=by
 obtain ⟨m,hm⟩ : ∃ m,xs.length=m+1:=⟨xs.length - 1,by omega⟩
 rw [prsV,prsF_fuel xs.length (m+1) xs (by omega) (by omega),prsF,if_neg h]
 by_cases h8:xs.length<8
 ·rw [if_pos h8,if_pos h8]
 by_cases hn:w2 xs 2<8∨(xs.length:Int)<w2 xs 2
 ·rw [if_neg h8,if_neg h8,if_pos hn,if_pos hn]
 rw [if_neg h8,if_neg h8,if_neg hn,if_neg hn,prsV,prsF_fuel m _ _ (by rw [List.length_drop];omega) (Nat.le_refl _)]
def errTrs:List Tr→List Tr→Int
 | _,[]=>0
 | seen,x :: l=>if x.t<1∨5<x.t∨x.i<0∨65535<x.i∨x.k<0∨65535<x.k then 5 else if x∈seen then 9 else errTrs (seen++[x]) l
def errPr (p:Pr) (n:Int):Int :=
 if p.n≠n then 7 else if p.p<1∨3<p.p then 5 else if (p.p=1∧p.s.length≠0∧p.s.length≠8)∨(p.p≠1∧p.s.length≠4) then 20
 else if p.ts.length=0 then 8 else if 24<p.ts.length then 10 else errTrs [] p.ts
def errPrs:Int→List Pr→Int
 | _,[]=>0
 | n,p :: l=>if errPr p n≠0 then errPr p n else errPrs (n+1) l
def checkP (l:List Pr):Int:=if l.length=0 then 8 else if 8<l.length then 10 else errPrs 1 l
def parseP (xs:List Int):List Pr × Int:=if xs.length=0 then ([],1) else match prsV xs with
 | none=>([],4)
 | some l=>if checkP l≠0 then ([],checkP l) else (l,0)
def lenT (x:Tr):Int:=if x.k≠0 then 12 else 8
def encT (more:Int) (x:Tr):List Int:=[more,0]++(be 2 (lenT x)++([x.t % 256,0]++(be 2 x.i++(if x.k≠0 then be 2 32782++be 2 x.k else []))))
def encTs:List Tr→List Int
 | []=>[]
 | x :: l=>encT (if l.length=0 then 0 else 3) x++encTs l
def encP (more:Int) (p:Pr):List Int:=[more,0]++(be 2 (8+(p.s.length:Int)+(encTs p.ts).length)++([p.n % 256,p.p % 256,(p.s.length:Int) % 256,(p.ts.length:Int) % 256]++(p.s++encTs p.ts)))
def encPs:List Pr→List Int
 | []=>[]
 | p :: l=>encP (if l.length=0 then 0 else 2) p++encPs l
def buildP (l:List Pr):List Int × Int:=if checkP l≠0 then ([],checkP l) else (encPs l,0)
theorem be2' (v:Int) (h:0≤v∧v≤65535):be 2 v=[v / 256,v % 256]:=by
 simp [be]
 omega
structure OkT (x:Tr):Prop where
 t:1≤x.t∧x.t≤5
 i:0≤x.i∧x.i≤65535
 k:0≤x.k∧x.k≤65535
theorem errTrs_ok : ∀ (l seen:List Tr),errTrs seen l=0→∀ x∈l,OkT x
 | [],_,_,x,hx=>by cases hx
 | y :: l,seen,h,x,hx=>by
  unfold errTrs at h
  split at h
  ·omega
  split at h
  ·omega
  rename_i h1 h2
  rcases List.mem_cons.1 hx with rfl | hx
  ·exact ⟨by omega,by omega,by omega⟩
  ·exact errTrs_ok l _ h x hx
theorem encT_len (more:Int) (x:Tr):((encT more x).length:Int)=lenT x:=by
 unfold encT lenT
 split<;>simp [be_len]
theorem encT_eq (more:Int) (x:Tr) (h:OkT x):encT more x=[more,0,0,lenT x,x.t,0,x.i / 256,x.i % 256]++(if x.k≠0 then [128,14,x.k / 256,x.k % 256] else []):=by
 have ht:=h.t
 have e1:x.t % 256=x.t:=by omega
 unfold encT
 rw [be2' _ h.i,e1]
 unfold lenT
 split
 ·rw [be2' 12 (by omega),be2' 32782 (by omega),be2' _ h.k]
  simp
 ·rw [be2' 8 (by omega)]
  simp
theorem attr_enc (x:Tr) (h:OkT x):attrV (if x.k≠0 then [128,14,x.k / 256,x.k % 256] else [])=(x.k,true):=by
 have hk:=h.k
 split
 ·rename_i h0
  unfold attrV
  rw [if_neg (by simp),if_neg (by simp [w2];omega)]
  simp [w2]
  omega
 ·rename_i h0
  have:x.k=0:=by omega
  simp [attrV,this]
theorem encTs_cons (x:Tr) (l:List Tr):((encTs (x :: l)).length:Int)=lenT x+(encTs l).length:=by
 have:=encT_len (if l.length=0 then 0 else 3) x
 rw [encTs,List.length_append]
 omega
theorem encTs_zero (l:List Tr):(encTs l).length=0↔l.length=0:=by
 cases l with
 | nil=>simp [encTs]
 | cons y m =>
  have h1:=encTs_cons y m
  have h2:lenT y=8∨lenT y=12:=by unfold lenT;split<;>omega
  simp only [List.length_cons]
  constructor<;>intro h<;>omega
theorem encTs_le : ∀ l:List Tr,(encTs l).length≤12*l.length
 | []=>by simp [encTs]
 | x :: l=>by
  have h1:=encTs_cons x l
  have h2:lenT x=8∨lenT x=12:=by unfold lenT;split<;>omega
  have h3:=encTs_le l
  simp only [List.length_cons]
  omega
theorem trs_read : ∀ (l:List Tr),(∀ x∈l,OkT x)→trsV (encTs l)=some l
 | [],_=>trsV_nil _ rfl
 | x :: l,h=>by
  have hx:=h x (by simp)
  have hl:lenT x=8∨lenT x=12:=by unfold lenT;split<;>omega
  have hle:=encT_len (if l.length=0 then 0 else 3) x
  have hlen:((encTs (x :: l)).length:Int)=lenT x+(encTs l).length:=by rw [encTs,List.length_append];omega
  have heq:encTs (x :: l)=[(if l.length=0 then 0 else 3),0,0,lenT x,x.t,0,x.i / 256,x.i % 256]++((if x.k≠0 then [128,14,x.k / 256,x.k % 256] else [])++encTs l):=by rw [encTs,encT_eq _ _ hx,List.append_assoc]
  have hw:w2 (encTs (x :: l)) 2=lenT x:=by rw [heq];simp [w2]
  have hn0:=encTs_zero l
  have hat:((encTs (x :: l)).drop 8).take ((lenT x).toNat - 8)=(if x.k≠0 then [128,14,x.k / 256,x.k % 256] else []):=by
   rw [heq]
   unfold lenT
   split<;>simp
  have hdr:(encTs (x :: l)).drop (lenT x).toNat=encTs l:=by
   have:(lenT x).toNat=(encT (if l.length=0 then 0 else 3) x).length:=by omega
   rw [this,encTs,List.drop_left]
  have h0:(encTs (x :: l)).getD 0 0=if l.length=0 then 0 else 3:=by rw [heq];simp
  have h4:(encTs (x :: l)).getD 4 0=x.t:=by rw [heq];simp
  have h6:w2 (encTs (x :: l)) 6=x.i:=by rw [heq];simp [w2];omega
  rw [trsV_step _ (by omega),if_neg (by omega),hw,if_neg (by omega),hat,attr_enc x hx,h0,h4,h6,hdr,trs_read l (fun y hy=>h y (by simp [hy]))]
  rw [if_neg]
  ·simp
  ·simp only [Bool.true_eq_false,or_false,ne_eq,Decidable.not_not]
   by_cases hz:l.length=0
   ·rw [if_pos hz,if_pos (by have:=hn0.2 hz;omega)]
   ·rw [if_neg hz,if_neg (by have:=mt hn0.1 hz;omega)]
structure OkP (q:Pr):Prop where
 n:0≤q.n∧q.n≤255
 p:1≤q.p∧q.p≤3
 s:q.s.length≤8
 some_:q.ts.length≠0
 few:q.ts.length≤24
 ts : ∀ x∈q.ts,OkT x
theorem errPr_ok {p:Pr} {n:Int} (h:errPr p n=0) (h0:0≤n) (h1:n≤255):OkP p:=by
 unfold errPr at h
 split at h
 ·omega
 split at h
 ·omega
 split at h
 ·omega
 split at h
 ·omega
 split at h
 ·omega
 exact ⟨by omega,by omega,by omega,by omega,by omega,errTrs_ok _ _ h⟩
theorem errPrs_ok : ∀ (l:List Pr) (n:Int),errPrs n l=0→0≤n→n+l.length≤256→∀ p∈l,OkP p
 | [],_,_,_,_,p,hp=>by cases hp
 | q :: l,n,h,h0,h1,p,hp=>by
  simp only [List.length_cons] at h1
  unfold errPrs at h
  split at h
  ·rename_i h2
   exact absurd h h2
  ·rename_i h2
   rcases List.mem_cons.1 hp with rfl | hp
   ·exact errPr_ok (by omega) h0 (by omega)
   ·exact errPrs_ok l (n+1) h (by omega) (by omega) p hp
theorem checkP_ok {l:List Pr} (h:checkP l=0):l.length≠0∧l.length≤8∧∀ p∈l,OkP p:=by
 unfold checkP at h
 split at h
 ·omega
 split at h
 ·omega
 exact ⟨by omega,by omega,errPrs_ok l 1 h (by omega) (by omega)⟩
def lenP (p:Pr):Nat:=8+p.s.length+(encTs p.ts).length
theorem lenP_le {p:Pr} (h:OkP p):lenP p≤304:=by
 have:=encTs_le p.ts
 have:=h.s
 have:=h.few
 unfold lenP
 omega
theorem encP_len (more:Int) (p:Pr):(encP more p).length=lenP p:=by
 simp [encP,lenP,be_len]
 omega
theorem encP_eq (more:Int) (p:Pr) (h:OkP p):encP more p=[more,0,(lenP p:Int) / 256,(lenP p:Int) % 256,p.n,p.p,(p.s.length:Int),(p.ts.length:Int)]++(p.s++encTs p.ts):=by
 have hn:=h.n
 have hp:=h.p
 have hs:=h.s
 have hf:=h.few
 have hl:=lenP_le h
 have e1:p.n % 256=p.n:=by omega
 have e2:p.p % 256=p.p:=by omega
 have e3:(p.s.length:Int) % 256=p.s.length:=by omega
 have e4:(p.ts.length:Int) % 256=p.ts.length:=by omega
 have e5:8+(p.s.length:Int)+((encTs p.ts).length:Int)=(lenP p:Int):=by unfold lenP;omega
 unfold encP
 rw [e1,e2,e3,e4,e5,be2' _ (by omega)]
 simp
structure HeadP (p:Pr) (more:Int) (ys xs:List Int):Prop where
 len:xs.length=lenP p+ys.length
 b0:xs.getD 0 0=more
 b2:w2 xs 2=lenP p
 b4:xs.getD 4 0=p.n
 b5:xs.getD 5 0=p.p
 b6:xs.getD 6 0=p.s.length
 b7:xs.getD 7 0=p.ts.length
 spi:(xs.drop 8).take p.s.length=p.s
 trs:(xs.take (lenP p)).drop (8+p.s.length)=encTs p.ts
 rest:xs.drop (lenP p)=ys
theorem head_noise (p:Pr) (h:OkP p) (more z:Int) (ys:List Int):HeadP p more ys ((encP more p++ys).set 1 z):=by
 have hl:=encP_len more p
 have hle:=lenP_le h
 have hge:8≤lenP p:=by unfold lenP;omega
 have heq:(encP more p++ys).set 1 z=[more,z,(lenP p:Int) / 256,(lenP p:Int) % 256,p.n,p.p,(p.s.length:Int),(p.ts.length:Int)]++(p.s++(encTs p.ts++ys)):=by rw [encP_eq _ _ h];simp
 have heq2:(encP more p++ys).set 1 z=([more,z,(lenP p:Int) / 256,(lenP p:Int) % 256,p.n,p.p,(p.s.length:Int),(p.ts.length:Int)]++(p.s++encTs p.ts))++ys:=by rw [heq];simp
 have hl2:([more,z,(lenP p:Int) / 256,(lenP p:Int) % 256,p.n,p.p,(p.s.length:Int),(p.ts.length:Int)]++(p.s++encTs p.ts)).length=lenP p:=by simp [lenP];omega
 refine ⟨by rw [List.length_set,List.length_append,hl],?_,?_,?_,?_,?_,?_,?_,?_,?_⟩
 ·rw [heq];simp
 ·rw [heq];simp [w2];omega
 ·rw [heq];simp
 ·rw [heq];simp
 ·rw [heq];simp
 ·rw [heq];simp
 ·rw [heq];simp
 ·rw [heq2,List.take_left' hl2]
  have:8+p.s.length=([more,z,(lenP p:Int) / 256,(lenP p:Int) % 256,p.n,p.p,(p.s.length:Int),(p.ts.length:Int)]++p.s).length:=by simp;omega
  rw [←List.append_assoc,this,List.drop_left]
 ·rw [heq2,List.drop_left' hl2]
theorem head_plain (p:Pr) (h:OkP p) (more:Int) (ys:List Int):HeadP p more ys (encP more p++ys):=by
 have:=head_noise p h more ((encP more p++ys).getD 1 0) ys
 have e:(encP more p++ys).set 1 ((encP more p++ys).getD 1 0)=encP more p++ys:=by
  have hge:1<(encP more p++ys).length:=by rw [List.length_append,encP_len];unfold lenP;omega
  apply List.ext_getElem (by simp)
  intro i h1 h2
  rw [List.getElem_set]
  split
  ·rename_i hi
   subst hi
   simp [List.getD_eq_getElem?_getD,List.getElem?_eq_getElem hge]
  ·rfl
 rw [e] at this
 exact this
theorem HeadP.step {p:Pr} {more:Int} {ys xs:List Int} (hh:HeadP p more ys xs) (h:OkP p):prsV xs=if more≠(if ys.length=0 then 0 else 2) then none else (prsV ys).map (p :: ·):=by
 have hge:8≤lenP p:=by unfold lenP;omega
 have hl:=hh.len
 have hs:=hh.spi
 have ht:=hh.trs
 have hsp:8+p.s.length≤lenP p:=by unfold lenP;omega
 rw [prsV_step _ (by omega),if_neg (by omega),hh.b2,if_neg (by omega),hh.b0,hh.b6]
 have e1:((8:Nat)+((p.s.length:Int)).toNat)=8+p.s.length:=by omega
 have e2:((lenP p:Int)).toNat=lenP p:=by omega
 by_cases hm:more≠(if ys.length=0 then 0 else 2)
 ·rw [if_pos hm,if_pos]
  left
  intro he
  apply hm
  rw [he]
  by_cases hy:ys.length=0
  ·rw [if_pos hy,if_pos (by omega)]
  ·rw [if_neg hy,if_neg (by omega)]
 ·rw [if_neg hm,if_neg]
  ·rw [e2,e1,ht,trs_read _ h.ts]
   simp only
   rw [hh.b7,if_neg (by simp),hh.rest,hh.b4,hh.b5,Int.toNat_natCast,hs]
  ·rintro (h1 | h1)
   ·apply h1
    rw [Decidable.not_not.1 hm]
    by_cases hy:ys.length=0
    ·rw [if_pos hy,if_pos (by omega)]
    ·rw [if_neg hy,if_neg (by omega)]
   ·omega
theorem encPs_cons (p:Pr) (l:List Pr):encPs (p :: l)=encP (if l.length=0 then 0 else 2) p++encPs l:=rfl
theorem encPs_zero (l:List Pr):(encPs l).length=0↔l.length=0:=by
 cases l with
 | nil=>simp [encPs]
 | cons y m =>
  rw [encPs_cons,List.length_append,encP_len]
  simp only [List.length_cons]
  unfold lenP
  constructor<;>intro h<;>omega
theorem more_ok (l:List Pr):¬ ((if l.length=0 then (0:Int) else 2)≠(if (encPs l).length=0 then 0 else 2)):=by
 have:=encPs_zero l
 by_cases h:l.length=0
 ·rw [if_pos h,if_pos (this.2 h)]
  simp
 ·rw [if_neg h,if_neg (fun e=>h (this.1 e))]
  simp
theorem prs_read : ∀ (l:List Pr),(∀ p∈l,OkP p)→prsV (encPs l)=some l
 | [],_=>prsV_nil _ rfl
 | p :: l,h=>by
  rw [encPs_cons,(head_plain p (h p (by simp)) _ _).step (h p (by simp)),if_neg (more_ok l),prs_read l (fun q hq=>h q (by simp [hq]))]
  rfl
theorem parse_build {l:List Pr} (h:checkP l=0):parseP (encPs l)=(l,0):=by
 obtain ⟨h1,h2,h3⟩:=checkP_ok h
 rw [parseP,if_neg (fun e=>h1 ((encPs_zero l).1 e)),prs_read l h3]
 simp [h]
end Go.Proofs.YtgpigjoonhghhaaGreat

namespace Go.Proofs.YtgpigjoonhghhaaGreat
open Go.RowKit
set_option linter.unusedVariables false
def KTr:KindR Tr where
 e:=118
 k:=3
 cs x:=[.int .i64 x.t,.int .i64 x.i,.int .i64 x.k]
 len _:=rfl
 one x u hu:=by
  simp at hu
  rcases hu with rfl | rfl | rfl<;>rfl
 pos:=by decide
def IntT (x:Tr):Prop:=(-9223372036854775808≤x.t∧x.t≤9223372036854775807)∧(-9223372036854775808≤x.i∧x.i≤9223372036854775807)∧(-9223372036854775808≤x.k∧x.k≤9223372036854775807)
def NTr:NestR Tr where
 ts:=[]
 ok _ _ x:=IntT x
 keep h _ _:=h
 mono h _:=h
def DTr:ReadN Tr where
 ok _ x:=IntT x
 keep h _:=h
structure PrP where
 n:Int
 p:Int
 sp:Option Addr
 sn:Nat
 sc:Nat
 s:List Int
 tp:Option Addr
 tn:Nat
 tc:Nat
 ts:List Tr
def PrP.pr (x:PrP):Pr:=⟨x.n,x.p,x.s,x.ts⟩
def KPr:KindR PrP where
 e:=115
 k:=4
 cs x:=[.int .i64 x.n,.int .i64 x.p,.slice x.sp x.sn x.sc,.slice x.tp x.tn x.tc]
 len _:=rfl
 one x u hu:=by
  simp at hu
  rcases hu with rfl | rfl | rfl | rfl<;>rfl
 pos:=by decide
def IntP (x:PrP):Prop:=(-9223372036854775808≤x.n∧x.n≤9223372036854775807)∧(-9223372036854775808≤x.p∧x.p≤9223372036854775807)
structure OkN (w:World) (base:Nat) (x:PrP):Prop where
 int:IntP x
 s:Bod w base x.sp x.sn x.sc x.s
 ts:RowG KTr NTr w base (.slice x.tp x.tn x.tc) x.ts
theorem RowG.off {w w':World} {base:Nat} {v:Value} {l:List Tr} {row:Option Nat} (h:RowG KTr NTr w base v l) (hg:w.grownBy w' row) (hr:OffT [118] w base row):RowG KTr NTr w' base v l:=by
 refine h.grown hg (fun r hrow hv=>?_) (fun r hrow=>Or.inr (fun _ _ _ _ hm=>by cases hm))
 have h1:=h.lt r hv
 rcases hr r hrow with h2 | h2
 ·omega
 ·rcases h.own.2 with ⟨rfl,_⟩ | ⟨g,cap,cur,rfl,hg2,hh,_⟩
  ·simp [Value.ownBlock] at hv
  ·simp [Value.ownBlock] at hv
   subst hv
   exact h2 _ _ _ hh (by simp [KTr])
def NPr:NestR PrP where
 ts:=[5,118]
 ok:=OkN
 keep h hg hr:=⟨h.int,h.s.grown hg (fun r hrow=>by
  rcases hr r hrow with h1 | h1
  ·exact Or.inl h1
  ·exact Or.inr (fun cur fz e=>h1 _ _ _ e (by simp))),h.ts.off hg (hr.sub (by simp))⟩
 mono h hb:=⟨h.int,h.s.mono hb,h.ts.mono hb⟩
structure OkD (w:World) (x:PrP):Prop where
 int:IntP x
 s:Byt w x.sp x.sn x.sc x.s
 ts:RdG KTr DTr w x.tp x.tn x.tc x.ts
def DPr:ReadN PrP where
 ok:=OkD
 keep h hk:=⟨h.int,h.s.keep hk,h.ts.keep hk⟩
theorem OkN.rd {w:World} {base:Nat} {x:PrP} (h:OkN w base x):OkD w x:=by
 have hl:x.ts.length=x.tn:=by
  rcases h.ts.form rfl with ⟨p,c,e⟩
  simp at e
  exact e.2.1.symm
 obtain ⟨p,c,e,hr⟩:=h.ts.rd (D:=DTr) hl (fun _ h=>h)
 simp at e
 obtain ⟨rfl,rfl⟩:=e
 exact ⟨h.int,h.s.byt,hr⟩
theorem Tryz.infoTr:(Tryz.prog.info? 118).map (fun i=>(i.zero,i.size,i.bytes))=some (some (.agg #[.int .i64 0,.int .i64 0,.int .i64 0]),3,24):=by kernel_rfl
theorem Tryz.infoPr:(Tryz.prog.info? 115).map (fun i=>(i.zero,i.size,i.bytes))=some (some (.agg #[.int .i64 0,.int .i64 0,.slice none 0 0,.slice none 0 0]),4,64):=by kernel_rfl
theorem knownTr:KnownR Tryz.prog KTr 113 24:=by
 refine ⟨Tryz.underlying113,?_⟩
 obtain ⟨i0,hi,hz0,hz1,hz2⟩:=info_parts Tryz.infoTr
 exact ⟨i0,_,hi,hz0,hz1,hz2,rfl⟩
theorem knownPr:KnownR Tryz.prog KPr 35 64:=by
 refine ⟨Tryz.underlying35,?_⟩
 obtain ⟨i0,hi,hz0,hz1,hz2⟩:=info_parts Tryz.infoPr
 exact ⟨i0,_,hi,hz0,hz1,hz2,rfl⟩
theorem srcTr (w:World) (t i k:Int) (T:TypeId):SrcG KTr (w.alloc (.cells #[.int .i64 t,.int .i64 i,.int .i64 k] T)) (some ⟨w.heap.size,0,none⟩) 1 [⟨t,i,k⟩]:=SrcG.new KTr w [⟨t,i,k⟩] T
theorem srcPr (w:World) (x:PrP) (T:TypeId):SrcG KPr (w.alloc (.cells #[.int .i64 x.n,.int .i64 x.p,.slice x.sp x.sn x.sc,.slice x.tp x.tn x.tc] T)) (some ⟨w.heap.size,0,none⟩) 1 [x]:=SrcG.new KPr w [x] T
end Go.Proofs.YtgpigjoonhghhaaGreat
