/-
  chacha.Xor of a key and a nonce that have their lengths.
-/
import Derived.Test.YtpocehpejbnemaaDoorQChaXor
namespace Go.Proofs.YtpocehpejbnemaaDoor
open Go.RowKit Go.Shelf
set_option linter.unusedVariables false
set_option linter.unusedSimpArgs false
attribute [local go_sem] Oper.semAt_some

theorem inLoadRow {F : Fence} {nn : Nat} {P : Program} {w : World} {ops : Array Oper} {rest : List Oper} {o : Oper} {a : Act} {Q : Exit → Act → World → Prop} (hgd : o.guard = none) (ty : TypeId) (x : Operand) (ho : o.op = .load ty x)
    (g : Nat) (hx : a.eval x = .pointer (some ⟨g, 0, none⟩)) (t : TypeId) (cs : Array Value) (fr : Nat × Nat) (d : TypeDesc) (hg : w.heap[g]? = some (.cells cs t fr))
    (hu : P.underlying ty = some d) (hd : (match d with | .struct _ | .array _ _ => true | _ => false) = true) (hi : (P.info? ty).map (·.size) = some cs.size)
    (h : wpListIn F nn P ops Q rest (a.put o.dst (.agg cs)) w) : wpListIn F nn P ops Q (o :: rest) a w := by
  refine wpListIn_plain hgd fun K hK => ?_
  unfold Oper.wpIn
  refine ⟨?_, ?_⟩
  · simp [Oper.about, ho]
  · rw [Oper.semAt_plain F _ _ (by rw [ho]; intro c hc'; cases hc')]
    unfold execOp
    simp only [ho, hx, Instr.loadAt, Instr.sureAddr, Sem.run_bind, Sem.run_pure, Result.andThen_ok, run_loadVar_row w g t ty cs fr d hg hu hd hi]
    exact hK _ _ h
theorem inStoreRow {F : Fence} {nn : Nat} {P : Program} {w : World} {ops : Array Oper} {rest : List Oper} {o : Oper} {a : Act} {Q : Exit → Act → World → Prop} (hgd : o.guard = none) (ty : TypeId) (x y : Operand) (ho : o.op = .store ty x y)
    (g : Nat) (cells : Array Value) (hx : a.eval x = .pointer (some ⟨g, 0, none⟩)) (hy : a.eval y = .agg cells)
    (t : TypeId) (old : Array Value) (hg : w.heap[g]? = some (.cells old t (0, 0))) (hi : (P.info? ty).map (·.size) = some cells.size)
    (hold : old.size = cells.size) (h1 : cells.all (·.oneCell') = true)
    (h : ∀ w', Hid (w' = w.setRow g cells) → wpListIn F nn P ops Q rest (a.put o.dst undef) w') : wpListIn F nn P ops Q (o :: rest) a w := by
  refine wpListIn_plain hgd fun K hK => ?_
  unfold Oper.wpIn
  refine ⟨?_, ?_⟩
  · simp [Oper.about, ho]
  · rw [Oper.semAt_plain F _ _ (by rw [ho]; intro c hc'; cases hc')]
    unfold execOp
    simp only [ho, hx, hy, Instr.storeAt, Instr.sureAddr, Sem.run_bind, Sem.run_pure, Result.andThen_ok, run_storeVar_row w g t ty old cells hg hi hold h1]
    exact hK _ _ (h _ rfl)
theorem inMakeByt {F : Fence} {nn : Nat} {P : Program} {w : World} {ops : Array Oper} {rest : List Oper} {o : Oper} {a : Act} {Q : Exit → Act → World → Prop} (hgd : o.guard = none) (l c : Operand) (t : TypeId) (hop : o.op = Op.makeSlice t l c)
    (base : Nat) (e : TypeId) (i : TypeInfo) (ht : P.underlying t = some (.slice e)) (hi : P.info? e = some i) (hz : i.zero = some (.int .u8 0)) (hsize : i.size = 1) (hby : i.bytes = 1)
    (kl kc : IntKind) (n m : Nat) (hl : a.eval l = .int kl (n : Int)) (hc : a.eval c = .int kc (m : Int)) (hnm : n ≤ m) (hb : m ≤ 281474976710656) (hbase : base ≤ w.heap.size)
    (hK : ∀ w', Own w' base e (.slice (some ⟨w.heap.size, 0, none⟩) n m) (List.replicate n 0) → w.grownBy w' none → w'.heap.size = w.heap.size + 1 → wpListIn F nn P ops Q rest (a.put o.dst (.slice (some ⟨w.heap.size, 0, none⟩) n m)) w') :
    wpListIn F nn P ops Q (o :: rest) a w := by
  refine wpListIn_plain hgd fun K hK' => ?_
  have hr := run_make (P := P) w t e i (.int .u8 0) ht hi hz kl kc n m (by omega) (by omega) (by rw [hby]; omega) (by omega)
  simp only [Int.toNat_natCast, hsize, Nat.mul_one] at hr
  unfold Oper.wpIn
  refine ⟨?_, ?_⟩
  · simp [Oper.about, hop]
  · rw [Oper.semAt_plain F _ _ (by rw [hop]; intro c hc'; cases hc')]
    simp [execOp, hop, hl, hc, hr, Result.andThen]
    refine hK' _ _ (hK _ ⟨by simp, .inr ⟨w.heap.size, m, _, by simp, hbase, heap_alloc_new w _, by simpa using hnm, by unfold maxLen; omega, by simp [size_madeCells], ?_⟩⟩ (World.grownBy_alloc w _ none) (by simp))
    rw [show (Value.int IntKind.u8 0).cells = #[.int .u8 0] from rfl, toList_madeCells_one]
    simp [List.take_replicate, Nat.min_eq_left hnm]

theorem made_size {w w2 w3 : World} {o : Obj} {g : Nat} {cs : Array Value} (hb : Below w.heap.size w w2) (h : w3 = (w2.alloc o).setRow g cs) : w.heap.size ≤ w3.heap.size ∧ w3.heap.size = w2.heap.size + 1 := by
  have h1 := hb.size
  subst h
  refine ⟨?_, by simp⟩
  rw [size_setRow, World.size_alloc]
  omega

theorem Own.grown {U U' : World} {base : Nat} {e : TypeId} {v : Value} {xs : List Int} (h : Own U base e v xs) (hg : U.grownBy U' none) : Own U' base e v xs := h.stays hg (fun k e => by cases e)
theorem grown_put (W : World) (d : Nat) (ob : Obj) : W.grownBy (W.putObj d ob) (some d) := ⟨rfl, rfl, rfl, by simp, fun k hk hne => World.putObj_heap_other (fun e => hne (by rw [e]))⟩
theorem below_one (w : World) (o : Obj) : Below w.heap.size w (w.alloc o).drew := ((Below.refl _ w).alloc (Nat.le_refl _) o).drew
theorem grown_one (w : World) (o : Obj) : w.grownBy (w.alloc o).drew none := grown_of_below (below_one w o) none
theorem chP_abides (Bd B0 : Nat) : AbidesN Bd (fun (x : ChP) U => Byt U x.p x.n x.n x.b ∧ x.n ≤ 64 ∧ ∃ bb oo, x.p = some ⟨bb, oo, none⟩ ∧ bb < B0) := fun x U U' row h hg hr =>
  ⟨h.1.keep fun a v ha => hg.cell ha (fun e => by
    obtain ⟨o, ho, hc⟩ := cells_of_cell ha
    obtain ⟨_, o', ho', hc'⟩ := hr _ e.symm
    rw [ho] at ho'
    cases ho'
    rw [hc] at hc'
    cases hc'), h.2⟩
theorem list_abides (Bd : Nat) (p : List ChP → Prop) : AbidesN Bd (fun (x : List ChP) (_ : World) => p x) := fun x U U' row h hg hr => h

set_option maxHeartbeats 3200000 in
set_option maxRecDepth 100000 in
theorem cxor_yes (p q r : Option Addr) (c d n e : Nat) (key nonce b : List Int) (ctr : Int) (w : World) (h : Byt w p 32 c key) (h' : Byt w q 12 d nonce) (hb : Byt w r n e b) (hn : n ≤ 1000000) (hQ : QAt w) (hc0 : 0 ≤ ctr) (hc1 : ctr < 4294967296) :
    Calls Tryd.prog 24 #[.slice p 32 c, .int .u32 ctr, .slice q 12 d, .slice r n e] w fun en w' => ∃ v, en = .returned (.tuple #[v, .bool true]) ∧ Own w' w.heap.size 5 v (xorC key ctr nonce b) ∧ Below w.heap.size w w' := by
  obtain ⟨i0, hi0, hz0, hz1, hz2⟩ := info_parts Tryd.infoByte
  obtain ⟨K, hK0, hK1⟩ : ∃ K, n ≤ 64 * K ∧ 64 * K < n + 64 := ⟨(n + 63) / 64, by omega, by omega⟩
  obtain ⟨T, hT⟩ : ∃ T : Nat → List Int, (fun (j : Nat) => initC key ((ctr + (j : Int)) % 4294967296) nonce) = T := ⟨_, rfl⟩
  obtain ⟨f, hf⟩ : ∃ f, ksC key ctr nonce = f := ⟨_, rfl⟩
  have HT0 : Is (initC key ctr nonce) (T 0) := ⟨by rw [← hT]; simp only [Int.ofNat_zero, Int.add_zero]; rw [Int.emod_eq_of_lt hc0 hc1]⟩
  have HTL : Hid (∀ j, (T j).length = 16) := fun j => by rw [← hT]; exact initC_len _ _ _
  have HTC : Hid (∀ j, (T j).getD 12 0 = (ctr + (j : Int)) % 4294967296) := fun j => by rw [← hT]; exact initC_at _ _ _
  have HTN : Hid (∀ j, (T j).set 12 ((ctr + (j : Int) + 1) % 4294967296) = T (j + 1)) := fun j => by
    rw [← hT]
    simp only [initC_set]
    congr 2
    push_cast
    omega
  have HKF : Hid (∀ k i, i < 64 → f (64 * k + i) = (mixedC (T k)).getD i 0) := fun k i hi => by rw [← hf, ← hT]; exact ksC_at _ _ _ _ _ hi
  have HALL : Hid (∀ l : List (List Int), l = chunksP K b → pieceX f 0 l = xorC key ctr nonce b) := fun l hl => by
    rw [hl, pieceX_all f b K (by rw [hb.len]; omega) (by rw [hb.len]; omega), ← hf]
    rfl
  have HF := hidden (fit_any p q 32 c 12 d w (by omega) (by omega))
  have HI := hidden (initial_any p q c d key nonce ctr w h h')
  rw [HT0.eq] at HI
  have HQ := hidden hQ
  have hql := hQ.lt
  have HB := hidden hb
  have hbb := hb.big
  have hbc := hb.cap
  generalize xorC key ctr nonce b = R at *
  have hiS : ∀ j, (Tryd.prog.info? 84).map (·.size) = some (((T j).map (Value.int .u32)).toArray).size := fun j => by rw [infoS16]; simp [HTL.out j]
  have HIS := hidden hiS
  have hzs : ((List.replicate 16 (0 : Int)).map (Value.int .u32)).toArray.size = (((T 0).map (Value.int .u32)).toArray).size := by simp [HTL.out 0]
  have HZS := hidden hzs
  have HONES := hidden (fun j => one32 (T j))
  have hdec : decide ((32 : Nat) = 32 ∧ (12 : Nat) = 12) = true := by decide
  clear h h' hb hQ hT hf hiS hzs
  refine (callsIn_wide (n := 6)).1 ?_
  refine callsIn_of_wp_marks Tryd.func24 rfl trivial ?_ rfl
  simp only [Tryd.ntmps24, List.size_toArray, List.length_cons, List.length_nil, Nat.reduceAdd, Nat.reduceSub, Array.replicate_succ, Array.replicate_zero, List.push_toArray, List.append_toArray, List.nil_append, List.cons_append]
  gi_wp2_with (first
    | (refine ⟨trivial, ?_⟩; gi_at_call 43; (with_reducible refine (callsIn_wide (n := 5)).2 ((HF.out).mono ?_)); rintro en w1 ⟨rfl, rfl⟩)
    | (refine ⟨trivial, ?_⟩; gi_at_call 44; (with_reducible refine (callsIn_wide (n := 5)).2 ((HI.out).mono ?_)); rintro en w2 ⟨rfl, hb2⟩; have HB2 := hidden hb2; clear hb2)
    | (refine inStoreRow rfl 84 _ _ rfl w2.heap.size ((T 0).map (Value.int .u32)).toArray rfl rfl 84 _ (heap_alloc_new w2 _) (HIS.out 0) HZS.out (HONES.out 0) ?_; intro w3 HW3; have HS3 := hidden (made_size HB2.out HW3.out))
    | (refine inMakeByt rfl _ _ 22 rfl w.heap.size 5 i0 Tryd.underlying22 hi0 hz0 hz1 hz2 _ _ 0 n rfl rfl (Nat.zero_le _) (by omega) HS3.out.1 ?_; intro w4 hown hg4 hs4; have HO4 := hidden hown; have HG4 := hidden hg4; have HS4 := hidden hs4; clear hown hg4 hs4)
    | (refine ⟨trivial, ?_⟩; gi_at_call 45; (with_reducible refine (callsIn_wide (n := 5)).2 ((chunkP_fn r n e _).mono ?_)); rintro en w5 ⟨rfl, hw5⟩)
    | fail)
  obtain ⟨hb5, hz5, hI5⟩ : Below w.heap.size w w5 ∧ w5.heap.size = w4.heap.size + 3 ∧ InvX w w2.heap.size w4.heap.size f T r n e [] w5 := by
    have hw3 := HW3.out
    have hb3 : Below w.heap.size w w3 := by
      rw [hw3]
      exact below_setRow (HB2.out.alloc HB2.out.size _) HB2.out.size _
    have hst3 : Wd w3 w2.heap.size 84 (T 0) := by
      rw [hw3]
      exact (Wd.new w2 84 (List.replicate 16 0) _ rfl).row (T 0)
    have hb4 : Below w.heap.size w w4 := hb3.grown HG4.out hb3.size (fun k e => by cases e)
    have hst4 := hst3.grownC HG4.out (by simp)
    have hb5 : Below w.heap.size w w5 := by
      rw [← hw5]
      exact ((hb4.alloc hb4.size _).alloc (by have := hb4.size; simp; omega) _).alloc (by have := hb4.size; simp; omega) _
    have e1 := heap_alloc_new w4 (.cells #[.slice (some ⟨w3.heap.size, 0, none⟩) 0 n] 22)
    have e2 := heap_alloc_new (w4.alloc (.cells #[.slice (some ⟨w3.heap.size, 0, none⟩) 0 n] 22)) (.cells #[.slice r n e] 22)
    have e3 := heap_alloc_new ((w4.alloc (.cells #[.slice (some ⟨w3.heap.size, 0, none⟩) 0 n] 22)).alloc (.cells #[.slice r n e] 22)) (.cells #[.int .i64 64] 3)
    rw [World.size_alloc] at e2
    rw [World.size_alloc, World.size_alloc] at e3
    refine ⟨hb5, by rw [← hw5]; simp, ⟨⟨HQ.out.below hb5 hql, hb5, ?_, ?_⟩, ?_, ⟨.slice (some ⟨w3.heap.size, 0, none⟩) 0 n, ?_, ?_⟩, Nat.zero_le _⟩⟩
    · rw [← hw5, Below.heap_alloc _ _ _ (by simp)]
      exact e2
    · rw [← hw5]
      exact e3
    · rw [← hw5]
      exact ((hst4.alloc _).alloc _).alloc _
    · rw [← hw5, Below.heap_alloc _ _ _ (by simp; omega), Below.heap_alloc _ _ _ (by simp)]
      exact e1
    · rw [← hw5]
      exact ((HO4.out.alloc _).alloc _).alloc _
  have hz2 : w4.heap.size = w2.heap.size + 2 := by rw [HS4.out, HS3.out.2]
  have hw2 : w.heap.size ≤ w2.heap.size := HB2.out.size
  clear hw5 HW3 HS3 HO4 HG4 HS4 HZS HI HF HB2
  obtain ⟨g, hg⟩ : ∃ g, w2.heap.size = g := ⟨_, rfl⟩
  obtain ⟨o, ho⟩ : ∃ o, w4.heap.size = o := ⟨_, rfl⟩
  simp only [hg, ho] at hI5 hz5 hz2 hw2 ⊢
  clear hg ho
  have HZ2 := hidden hz2
  have HZ5 := hidden hz5
  have l1 : g < w5.heap.size := by omega
  have l2 : o + 2 < w5.heap.size := by omega
  have l3 : w.heap.size < o := by omega
  have l4 : ¬ g = o := by omega
  clear hz2 hz5
  have hc0 : w5.cell? ⟨o + 1, 0, none⟩ = some (.slice r n e) := by rw [cell_of_row w5 _ _ _ _ _ hI5.mid.c0]; rfl
  have hc1 : w5.cell? ⟨o + 1 + 1, 0, none⟩ = some (.int .i64 64) := by rw [cell_of_row w5 _ _ _ _ _ hI5.mid.c1]; rfl
  have HSEQ := chunkP_seq w w5 r K n e b HB.out (by omega) hK0 hK1 (fun j hj => hb5.block j hj) (o + 1) (by omega) (by omega) hc0 hc1 (fun j => j < w.heap.size ∨ j = o + 1 ∨ j = o + 1 + 1) (fun j h => h) 2
  have hlo : w.heap.size ≤ g := hw2
  clear hc0 hc1
  refine wpIn_rangeFunc_ks rfl (by omega) (gf := 85) (lb := #[.pointer (some ⟨o + 1, 0, none⟩), .pointer (some ⟨o + 1 + 1, 0, none⟩)]) rfl trivial (enters_of Tryd.func85 (by kernel_rfl) rfl) (fun _ => rfl) HSEQ (fun k hk => by omega)
    (chP_abides _ _) (list_abides _ _) (InvX w g o f T r n e) (invX_abides w g o f T r n e _ hql (by omega) (by omega) (by omega)) hI5
    (fun x => { tmps := #[.slice p 32 c, .int .u32 ctr, .slice q 12 d, .slice r n e, undef, undef, undef, undef, .slice none 0 0, .bool false, .pointer (some ⟨g, 0, none⟩), .pointer (some ⟨o, 0, none⟩), .slice x.p x.n x.n, undef, undef, undef, .slice p 32 c, .slice q 12 d, .bool true, .bool false, .slice p 32 c, .int .u32 ctr, .slice q 12 d, .agg ((T 0).map (Value.int .u32)).toArray, .slice r n e, .int .i64 n, .slice (some ⟨w3.heap.size, 0, none⟩) 0 n, .slice r n e, .func (.func 85) #[] #[.pointer (some ⟨o + 1, 0, none⟩), .pointer (some ⟨o + 1 + 1, 0, none⟩)], .slice x.p x.n x.n, undef, undef, undef, undef, undef, undef, undef, undef, undef, undef, undef, undef, undef, undef, undef, undef, undef, undef, undef, undef, undef, undef, undef], defers := [] }) ?assign ?body ?done
  case assign =>
    intro l x U K hK
    simp only [encChP]
    gi_wp2
    exact hK
  case body =>
    rintro l pre x U2 hI ⟨hbyt, hx64, bb, oo, hxp, hbbl⟩ hlen hU
    obtain ⟨k, hk⟩ : ∃ k, pre.length = k := ⟨_, rfl⟩
    have hst := hI.st
    rw [hk] at hst
    have hRl := mixedC_len (T k)
    have HM := hidden (mixed_any (T k) (HTL.out k) U2 hI.mid.q)
    have HKF := hidden (HKF.out k)
    obtain ⟨R', hR'⟩ : ∃ R', mixedC (T k) = R' := ⟨_, rfl⟩
    rw [hR'] at HM hRl HKF
    have hiR : (Tryd.prog.info? 89).map (·.size) = some ((R'.map (Value.int .u8)).toArray).size := by rw [infoB64]; simp [hRl]
    have hzr : ((List.replicate 64 (0 : Int)).map (Value.int .u8)).toArray.size = ((R'.map (Value.int .u8)).toArray).size := by simp [hRl]
    have HIR := hidden hiR
    have HZR := hidden hzr
    have HONE := hidden (one8 R')
    have HST := hidden hst
    have HISK := hidden (HIS.out k)
    have HII := hidden hI
    have HBY := hidden hbyt
    have hll := hbyt.len
    have hU2 := hst.lt
    clear hiR hzr hR' hst HIS hI hbyt HALL HB HQ
    gi_wp2_with (first
      | (refine inLoadRow rfl 84 _ rfl g rfl 84 _ (0, 0) _ HST.out.heap Tryd.underlying84 rfl HISK.out ?_)
      | (refine ⟨trivial, ?_⟩; gi_at_call 46; (with_reducible refine CallsIn.inRound l ((callsIn_wide (n := 3)).2 ((HM.out).mono ?_))); rintro en w6 ⟨rfl, hb6⟩; have HB6 := hidden hb6; clear hb6)
      | (refine inStoreRow rfl 89 _ _ rfl w6.heap.size (R'.map (Value.int .u8)).toArray rfl rfl 89 _ (heap_alloc_new w6 _) HIR.out HZR.out HONE.out ?_; intro w7 HW7)
      | fail)
    obtain ⟨M, hM⟩ : ∃ M, w6.heap.size = M := ⟨_, rfl⟩
    have hMl : U2.heap.size ≤ M := by have := HB6.out.size; omega
    have hg7 : Below U2.heap.size U2 w7 := by
      rw [HW7.out]
      exact below_setRow (HB6.out.alloc HB6.out.size _) HB6.out.size _
    have hgr7 := grown_of_below hg7 none
    obtain ⟨v0, hv0, hov0⟩ := HII.out.out
    have hst7 : Wb w7 M 89 R' := by
      rw [HW7.out, ← hM]
      exact (Wb.new w6 89 (List.replicate 64 0) _ rfl).row R'
    obtain ⟨P0, hP0⟩ : ∃ P0, pieceX f 0 (pre.map (·.b)) = P0 := ⟨_, rfl⟩
    have hlenP := HII.out.len
    rw [hP0] at hov0 hlenP
    rw [hk] at hlenP
    have HX0 : Hid (LoopX w g o M (T k) R' r n e x (fun j => j < w.heap.size ∨ j = o + 1 ∨ j = o + 1 + 1) U2 w7 (P0 ++ xorL f (64 * k) (x.b.take 0))) := by
      refine ⟨HII.out.mid.grown hgr7 hql (fun k e => by cases e), HST.out.grownC hgr7 (by simp), ⟨v0, (hgr7.block _ (Array.getElem?_eq_some_iff.1 hv0).1 (by simp)).trans hv0, ?_⟩, hst7, HBY.out.below hg7, KeepS.of_below (fun j hj => by omega) hg7, KeepsOthers.of_grownBy hgr7 (fun j ob e => by cases e)⟩
      rw [List.take_zero, xorL, List.append_nil]
      exact hov0.grown hgr7
    have HP0 := Is.mk hP0
    have HK1 : k < K := by omega
    have HPL := hidden hlenP
    have hU2o : o + 2 < U2.heap.size := by omega
    simp only [hM]
    clear HW7 hM hg7 hgr7 hv0 hov0 hst7 hP0 hlenP HB6 HBY HST HM
    gi_loopw [34] (fun i wr => ∃ j : Nat, j ≤ x.n ∧ i = .int .i64 j ∧ LoopX w g o M (T k) R' r n e x (fun j => j < w.heap.size ∨ j = o + 1 ∨ j = o + 1 + 1) U2 wr (P0 ++ xorL f (64 * k) (x.b.take j))) (fun i _ => x.n - (intOf i).toNat)
    case atStart => exact ⟨0, by omega, rfl, HX0.out⟩
    case round =>
      obtain ⟨j, hj, rfl, hx⟩ := hrel
      have HX := hidden hx
      obtain ⟨v, hv, hov⟩ := hx.out
      by_cases hlt : j < x.n
      · have hbc : wr.cell? ⟨bb, oo + j, none⟩ = some (.int .u8 (x.b.getD j 0)) := by
          obtain ⟨b', o', e', hc⟩ := hx.byt.at_ (by omega)
          rw [hxp] at e'
          cases e'
          exact hc j hlt
        have hsc : wr.cell? ⟨M, j, none⟩ = some (.int .u8 (R'.getD j 0)) := hx.str.cell j (by omega)
        have hvc : wr.cell? ⟨o, 0, none⟩ = some v := by rw [cell_of_row wr _ _ _ _ _ hv]; rfl
        have HNX : Is (P0 ++ xorL f (64 * k) (x.b.take (j + 1))) ((P0 ++ xorL f (64 * k) (x.b.take j)) ++ [bits .xor .u8 (x.b.getD j 0) (R'.getD j 0)]) := ⟨by
          rw [xorL_next' _ _ _ _ (by omega), HKF.out j (by omega), List.append_assoc]⟩
        have HBD : Hid ((P0 ++ xorL f (64 * k) (x.b.take j)).length + 1 ≤ 140737488355328) := by
          have := HPL.out
          exact hidden (by rw [List.length_append, xorL_len, List.length_take]; omega)
        have HOV := hidden hov
        have HV := hidden hv
        have HSK : Hid (∀ W1 W4, wr.grownBy W1 none → W1.grownBy W4 v.ownBlock → W4.cell? ⟨o, 0, none⟩ = some v ∧ W4.cell? ⟨M, j, none⟩ = some (.int .u8 (R'.getD j 0))) := fun W1 W4 h1 h2 => by
          refine ⟨h2.cell (h1.cell hvc (by simp)) (fun e => ?_), h2.cell (h1.cell hsc (by simp)) (fun e => ?_)⟩
          · obtain ⟨cur, hc⟩ := hov.typed o e.symm
            rw [hv] at hc
            simp at hc
          · obtain ⟨cur, hc⟩ := hov.typed M e.symm
            rw [hx.str.heap] at hc
            simp at hc
        have HFR : Hid (∀ W1 W4, wr.grownBy W1 none → W1.grownBy W4 v.ownBlock → W4.frozen? ⟨o, 0, none⟩ = false) := fun W1 W4 h1 h2 => by
          have hl := (Array.getElem?_eq_some_iff.1 hv).1
          have e1 := (h1.block o hl (by simp)).trans hv
          have e2 := (h2.block o (Array.getElem?_eq_some_iff.1 e1).1 (fun e => by
            obtain ⟨cur, hc⟩ := hov.typed o e.symm
            rw [hv] at hc
            simp at hc)).trans e1
          exact frozen_of_row W4 o 0 _ _ e2
        generalize P0 ++ xorL f (64 * k) (x.b.take j) = PJ at *
        generalize x.b.getD j 0 = y at *
        generalize R'.getD j 0 = s at *
        have b1 : (0 : Int) ≤ (j : Int) := by omega
        have b2 : (j : Int) < 64 := by omega
        have b3 : (j : Int) < (x.n : Int) := by omega
        clear hx hov hv
        gi_wp2_with fail
        refine regionIn_round (by kernel_rfl) (by kernel_rfl) ?_ ?_
        · rintro ⟨a0, w0, h0⟩; exact h0
        refine any_of_C (c := 8) (S0 := fun _ => True) (S1 := fun w' => w'.cell? ⟨o, 0, none⟩ = some v ∧ w'.cell? ⟨M, j, none⟩ = some (.int .u8 s)) _ _ _ _ ?_
        have hS1 : wr.drew.cell? ⟨o, 0, none⟩ = some v ∧ wr.drew.cell? ⟨M, j, none⟩ = some (.int .u8 s) := ⟨hvc, hsc⟩
        refine anyC_take1 (i := 0) (v := ?_) rfl rfl (by decide) (by kernel_rfl) (by kernel_rfl) (by kernel_rfl) (by kernel_rfl) (by kernel_rfl) (fun _ _ _ h => h) (Or.inl ⟨by rfl, ?_⟩) trivial hS1 ?_
        rotate_left
        · rintro w0 ⟨-, t0, t1⟩; go_simp; (try with_reducible rfl)
        (try simp only [Act.put, List.setIfInBounds_toArray, List.set_cons_zero, List.set_cons_succ])
        refine anyC_take (i := 1) (v := ?_) rfl rfl (by decide) (by kernel_rfl) (by kernel_rfl) (by kernel_rfl) (fun _ _ _ h => h) (Or.inl ⟨by rfl, ?_⟩) trivial (fun _ => hS1) ?_
        rotate_left
        · intro w0 _; go_simp; (try with_reducible rfl)
        (try simp only [Act.put, List.setIfInBounds_toArray, List.set_cons_zero, List.set_cons_succ])
        refine anyC_take (i := 2) (v := ?_) rfl rfl (by decide) (by kernel_rfl) (by kernel_rfl) (by kernel_rfl) (fun _ _ _ h => h) (Or.inl ⟨by rfl, ?_⟩) trivial (fun _ => hS1) ?_
        rotate_left
        · intro w0 _; go_simp; (try with_reducible rfl)
        (try simp only [Act.put, List.setIfInBounds_toArray, List.set_cons_zero, List.set_cons_succ])
        refine anyC_take (i := 3) (v := ?_) rfl rfl (by decide) (by kernel_rfl) (by kernel_rfl) (by kernel_rfl) (fun _ _ _ h => h) (Or.inl ⟨by rfl, ?_⟩) trivial (fun _ => hS1) ?_
        rotate_left
        · intro w0 _; go_simp; (try with_reducible rfl)
        (try simp only [Act.put, List.setIfInBounds_toArray, List.set_cons_zero, List.set_cons_succ])
        refine anyC_take1 (i := 4) (v := ?_) rfl rfl (by decide) (by kernel_rfl) (by kernel_rfl) (by kernel_rfl) (by kernel_rfl) (by kernel_rfl) (fun _ _ _ h => h) (Or.inl ⟨by rfl, ?_⟩) trivial hS1 ?_
        rotate_left
        · rintro w0 ⟨-, t0, t1⟩; go_simp; (try with_reducible rfl)
        (try simp only [Act.put, List.setIfInBounds_toArray, List.set_cons_zero, List.set_cons_succ])
        refine anyC_take (i := 5) (v := ?_) rfl rfl (by decide) (by kernel_rfl) (by kernel_rfl) (by kernel_rfl) (fun _ _ _ h => h) (Or.inl ⟨by rfl, ?_⟩) trivial (fun _ => hS1) ?_
        rotate_left
        · intro w0 _; go_simp; (try with_reducible rfl)
        (try simp only [Act.put, List.setIfInBounds_toArray, List.set_cons_zero, List.set_cons_succ])
        refine anyC_one (i := 6) (by kernel_rfl) rfl (fun K hK => ?_)
        go_simp
        refine hK.out _ _ trivial (fun _ => ?_) ?_
        · exact ⟨cell_below (below_one _ _) _ _ hvc, cell_below (below_one _ _) _ _ hsc⟩
        clear hK K hS1
        (try simp only [Act.put, List.setIfInBounds_toArray, List.set_cons_zero, List.set_cons_succ])
        refine anyC_one (i := 7) (by kernel_rfl) rfl (fun K hK => ?_)
        refine step_append_byt _ (by rfl) _ _ 22 (by rfl) w.heap.size 5 i0 (.int .u8 0) Tryd.underlying22 hi0 hz0 hz1 hz2 rfl _ _ (by rfl) ((HOV.out.alloc _).drew) _ _ _ _ [bits .xor .u8 y s] (by rfl) (one_byte _ _ _ (xorb_rng _ _) ?c1) (by rfl) ?c2 ?c3 ?_
        case c1 =>
          show (wr.alloc _).cell? _ = _
          rw [World.cell?_alloc_at _ _ _ _ rfl]
          rfl
        case c2 => exact HBD.out
        case c3 => have := HX.out.mid.bel.size; simp; omega
        intro v' w8 hown8 hg8
        obtain ⟨pv, cv, hvv⟩ := hown8.form
        have HOWN8 := hidden hown8
        have HG8 := hidden hg8
        generalize (PJ ++ [bits .xor .u8 y s]).length = ln at hvv
        subst hvv
        have hk8 := HSK.out _ w8 (grown_one wr _) hg8
        refine hK.out _ _ trivial (fun _ => hk8) ?_
        have hvc8 := hk8.1
        have hfr8 := HFR.out _ w8 (grown_one wr _) hg8
        clear hown8 hg8
        clear hK K
        (try simp only [Act.put, List.setIfInBounds_toArray, List.set_cons_zero, List.set_cons_succ])
        refine anyC_one (i := 8) (by kernel_rfl) rfl (fun K hK => ?_)
        go_simp
        refine hK.out _ _ trivial (fun h => nomatch (h.symm.trans (by kernel_rfl) : false = true)) ?_
        clear hK K
        (try simp only [Act.put, List.setIfInBounds_toArray, List.set_cons_zero, List.set_cons_succ])
        refine anyC_done (by kernel_rfl) ?_ _
        have HXN := hidden (HX.out.next HV.out HOV.out (grown_one wr _) HG8.out HOWN8.out hql hlo HZ2.out (by have := HZ5.out; omega) ⟨bb, oo, hxp, hbbl⟩ (fun j hj => hj) hU2o)
        rw [← HNX.eq] at HXN
        clear hk8 hvc8 hfr8 HG8 HOWN8 HSK HFR HX HOV HV
        gi_wp2
        go_roundw
        case rel => exact ⟨j + 1, by omega, by go_num, HXN.out⟩
        case measure => simp [intOf]; omega
      · obtain rfl : j = x.n := by omega
        have hsg : wr.cell? ⟨g, 12, none⟩ = some (.int .u32 ((ctr + (k : Int)) % 4294967296)) := by
          have := hx.st.cell 12 (by rw [HTL.out k]; omega)
          rw [HTC.out k] at this
          exact this
        have hfg := hx.st.fr 12
        clear hx hv hov
        gi_wp2
        have h := HX.out
        obtain ⟨v, hv, hov⟩ := h.out
        have hgs := grown_set wr g 12 (.int .u32 ((ctr + (k : Int) + 1) % 4294967296))
        have hws := h.st.set 12 ((ctr + (k : Int) + 1) % 4294967296)
        rw [HTN.out k] at hws
        have hlt := h.st.lt
        have hus := h.keep.size
        have hpx : pieceX f 0 ((pre ++ [x]).map (·.b)) = P0 ++ xorL f (64 * k) (x.b.take x.n) := by
          rw [List.map_append, List.map_cons, List.map_nil, pieceX_append, HP0.eq, Nat.zero_add, List.length_map, hk, List.take_of_length_le (by omega)]
        refine ⟨h.oth.trans (KeepsOthers.setCell _ _ _), h.keep.trans (KeepS.grown (fun j hj => by omega) hgs (fun j e hd => by cases e; have := HZ2.out; omega)), ⟨h.mid.grown hgs hql (fun j e => by cases e; have := HZ2.out; omega), ?_, ⟨v, ?_, ?_⟩, ?_⟩⟩
        · rw [List.length_append, List.length_singleton, hk]
          exact hws
        · rw [Below.heap_setCell _ _ _ _ (by simp only; omega)]
          exact hv
        · rw [hpx]
          refine hov.stays hgs (fun j e cur hc => ?_)
          cases e
          rw [h.st.heap] at hc
          simp at hc
        · rw [hpx, List.length_append, xorL_len, List.length_take, List.length_append, List.length_singleton, hk]
          have := HPL.out
          omega
  case done =>
    rintro dd pre W hd hT hI hK
    obtain ⟨v, hv, hown⟩ := hI.out
    rw [HALL.out _ hT] at hown
    have hvc : W.cell? ⟨o, 0, none⟩ = some v := by rw [cell_of_row W _ _ _ _ _ hv]; rfl
    have HK := hidden hK
    have HO := hidden hown
    have HBL := hidden hI.mid.bel
    clear hI hv hown hT hK
    gi_wp2
    have hbW := HBL.out.trans (below_put (B := w.heap.size) W dd (.deferred none) (by omega) HBL.out.size)
    refine ⟨by simp, .inl ⟨_, _, rfl, run_takeDeferred HK.out, ?_⟩⟩
    exact ⟨_, results_tmp2 rfl _ _ _, v, rfl, HO.out.stays (grown_put _ _ _) (fun k hk cur hc => by cases hk; rw [HK.out] at hc; cases hc), hbW⟩
end Go.Proofs.YtpocehpejbnemaaDoor
