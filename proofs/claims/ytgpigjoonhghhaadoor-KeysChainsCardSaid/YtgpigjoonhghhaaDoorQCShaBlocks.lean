/-
  sha256.blocks: whole blocks, one after the other.
-/
import Derived.Test.YtgpigjoonhghhaaDoorQCShaChunk
namespace Go.Proofs.YtgpigjoonhghhaaDoor
open Go.RowKit Go.Shelf
set_option linter.unusedVariables false
attribute [local go_sem] Oper.semAt_some
def foldB : List (List Int) → H8 → H8
  | [], s => s
  | x :: l, s => foldB l (blockS s x)
theorem foldB_append (l m : List (List Int)) (s : H8) : foldB (l ++ m) s = foldB m (foldB l s) := by
  induction l generalizing s with
  | nil => rfl
  | cons x l ih => exact ih _
theorem chunksS_cons (k : Nat) (b : List Int) : chunksS (k + 1) b = b.take 64 :: chunksS k (b.drop 64) := by
  induction k with
  | zero => simp [chunksS]
  | succ k ih =>
    rw [chunksS, ih, chunksS, List.drop_drop, List.cons_append, show 64 + 64 * k = 64 * (k + 1) by omega]
theorem foldB_chunks (k : Nat) (s : H8) (b : List Int) : foldB (chunksS k b) s = blocksS k s b := by
  induction k generalizing s b with
  | zero => rfl
  | succ k ih => rw [chunksS_cons, foldB, blocksS]; exact ih _ _
def InvB (w : World) (s : H8) (pre : List ChE) (U : World) : Prop :=
  Wd U w.heap.size 81 (foldB (pre.map (·.b)) s).list ∧ Wd U (w.heap.size + 1) 81 (List.replicate 8 0) ∧ KAt U ∧ Below w.heap.size w U
theorem Wd.grown {w w' : World} {g : Nat} {t : TypeId} {l : List Int} {row : Option Nat} (h : Wd w g t l) (hg : w.grownBy w' row) (hn : some g ≠ row) : Wd w' g t l := ⟨by rw [hg.block g h.lt hn]; exact h.heap⟩
theorem invB_abides (w : World) (s : H8) (R Bd : Nat) (hR : w.heap.size + 1 < R) (hB : w.heap.size + 1 < Bd) (hk : 0 < w.heap.size) : AbidesR R Bd (InvB w s) := fun pre U U' row h hg hr => by
  obtain ⟨h1, h2, h3, h4⟩ := h
  have hb : ∀ k, row = some k → w.heap.size + 1 < k := fun k e => by
    rcases hr k e with h | ⟨h, _⟩ <;> omega
  refine ⟨h1.grown hg (fun e => by have := hb _ e.symm; omega), h2.grown hg (fun e => by have := hb _ e.symm; omega), ?_, h4.grown hg h4.size (fun k e => by have := hb k e; omega)⟩
  exact h3.below ((Below.refl w.heap.size U).grown hg h4.size (fun k e => by have := hb k e; omega)) hk
theorem byt_abides (Bd : Nat) : AbidesN Bd (fun (x : ChE) U => Byt U x.p 64 64 x.b) := fun x U U' row h hg hr =>
  h.keep fun a v ha => hg.cell ha (fun e => by
    obtain ⟨o, ho, hc⟩ := cells_of_cell ha
    obtain ⟨_, o', ho', hc'⟩ := hr _ e.symm
    rw [ho] at ho'
    cases ho'
    rw [hc] at hc'
    cases hc')
theorem none_abides (Bd : Nat) (p : List ChE → Prop) : AbidesN Bd (fun (x : List ChE) (_ : World) => p x) := fun x U U' row h hg hr => h
theorem wpListIn_load_row {F : Fence} {nn : Nat} {P : Program} {w : World} {ops : Array Oper} {rest : List Oper} {o : Oper} {a : Act} {Q : Exit → Act → World → Prop} (hgd : o.guard = none) (ty : TypeId) (x : Operand) (ho : o.op = .load ty x)
    (g : Nat) (hx : a.eval x = .pointer (some ⟨g, 0, none⟩)) (t : TypeId) (cs : Array Value) (fr : Nat × Nat) (d : TypeDesc) (hg : w.heap[g]? = some (.cells cs t fr))
    (hu : P.underlying ty = some d) (hd : (match d with | .struct _ | .array _ _ => true | _ => false) = true) (hi : (P.info? ty).map (·.size) = some cs.size)
    (h : wpListIn F nn P ops Q rest (a.put o.dst (.agg cs)) w) : wpListIn F nn P ops Q (o :: rest) a w := by
  refine wpListIn_plain hgd fun K hK => ?_
  unfold Oper.wpIn
  refine ⟨?_, ?_⟩
  · simp [Oper.about, ho]
  · rw [Oper.semAt_plain F _ _ (by rw [ho]; intro c hc'; cases hc')]
    unfold execOp
    simp only [ho, hx, Instr.loadAt, Instr.sureAddr, Sem.run_bind, Sem.run_pure, Result.andThen_ok, run_loadVar_row w g t ty cs fr d hg hu hd hi]
    exact hK _ _ h
theorem wpListIn_store_row {F : Fence} {nn : Nat} {P : Program} {w : World} {ops : Array Oper} {rest : List Oper} {o : Oper} {a : Act} {Q : Exit → Act → World → Prop} (hgd : o.guard = none) (ty : TypeId) (x y : Operand) (ho : o.op = .store ty x y)
    (g : Nat) (cells : Array Value) (hx : a.eval x = .pointer (some ⟨g, 0, none⟩)) (hy : a.eval y = .agg cells)
    (t : TypeId) (old : Array Value) (hg : w.heap[g]? = some (.cells old t (0, 0))) (hi : (P.info? ty).map (·.size) = some cells.size)
    (hold : old.size = cells.size) (h1 : cells.all (·.oneCell') = true)
    (h : wpListIn F nn P ops Q rest (a.put o.dst undef) (w.setRow g cells)) : wpListIn F nn P ops Q (o :: rest) a w := by
  refine wpListIn_plain hgd fun K hK => ?_
  unfold Oper.wpIn
  refine ⟨?_, ?_⟩
  · simp [Oper.about, ho]
  · rw [Oper.semAt_plain F _ _ (by rw [ho]; intro c hc'; cases hc')]
    unfold execOp
    simp only [ho, hx, hy, Instr.storeAt, Instr.sureAddr, Sem.run_bind, Sem.run_pure, Result.andThen_ok, run_storeVar_row w g t ty old cells hg hi hold h1]
    exact hK _ _ h
set_option maxHeartbeats 1600000 in
set_option maxRecDepth 100000 in
theorem blocks_any (s : H8) (p : Option Addr) (k c n : Nat) (xs : List Int) (w : World) (hn : 64 * k = n) (h : Byt w p n c xs) (hb : n ≤ 140737488355328) (hK : KAt w) :
    Calls Tryd.prog 60 #[(.agg #[.int .u32 s.a, .int .u32 s.b, .int .u32 s.c, .int .u32 s.d, .int .u32 s.e, .int .u32 s.f, .int .u32 s.g, .int .u32 s.h]), .slice p n c] w fun e w' => e = .returned (.agg #[.int .u32 (blocksS k s xs).a, .int .u32 (blocksS k s xs).b, .int .u32 (blocksS k s xs).c, .int .u32 (blocksS k s xs).d, .int .u32 (blocksS k s xs).e, .int .u32 (blocksS k s xs).f, .int .u32 (blocksS k s xs).g, .int .u32 (blocksS k s xs).h]) ∧ Below w.heap.size w w' := by
  obtain ⟨R, hR⟩ : ∃ R, blocksS k s xs = R := ⟨_, rfl⟩
  rw [hR]
  have HR := Is.mk hR
  have HX := hidden h
  have HK := hidden hK
  have HN := hidden hn
  clear hR h hK hn
  refine (callsIn_wide (n := 6)).1 ?_
  refine callsIn_of_wp_marks Tryd.func60 rfl trivial ?_ rfl
  simp only [Tryd.ntmps60, List.size_toArray, List.length_cons, List.length_nil, Nat.reduceAdd, Nat.reduceSub, Array.replicate_succ, Array.replicate_zero, List.push_toArray, List.append_toArray, List.nil_append, List.cons_append]
  gi_wp2_with (refine ⟨trivial, ?_⟩; gi_at_call 67; (with_reducible refine (callsIn_wide (n := 5)).2 ((chunk_fn p n c _).mono ?_)); rintro e w2 ⟨rfl, hw2⟩)
  have hs0 : Wd w2 w.heap.size 81 s.list := by
    rw [← hw2]
    exact (((Wd.new w _ s.list _ rfl).alloc _).alloc _).alloc _
  have hd0 : Wd w2 (w.heap.size + 1) 81 (List.replicate 8 0) := by
    rw [← hw2]
    have := Wd.new (w.alloc (.cells (s.list.map (Value.int .u32)).toArray 81)) 81 (List.replicate 8 0) _ rfl
    rw [World.size_alloc] at this
    exact (this.alloc _).alloc _
  have hb0 : Below w.heap.size w w2 := by
    rw [← hw2]
    exact ((((Below.refl _ w).alloc (Nat.le_refl _) _).alloc (by simp) _).alloc (by simp; omega) _).alloc (by simp; omega) _
  have hz0 : w2.heap.size = w.heap.size + 4 := by rw [← hw2]; simp
  have hc0 : w2.cell? ⟨w.heap.size + 2, 0, none⟩ = some (.slice p n c) := by
    subst hw2
    go_simp
  have hc1 : w2.cell? ⟨w.heap.size + 3, 0, none⟩ = some (.int .i64 64) := by
    subst hw2
    go_simp
  have hsz : ((w.alloc (.cells #[.int .u32 s.a, .int .u32 s.b, .int .u32 s.c, .int .u32 s.d, .int .u32 s.e, .int .u32 s.f, .int .u32 s.g, .int .u32 s.h] 81)).alloc (.cells ((List.replicate 8 (0 : Int)).map (Value.int .u32)).toArray 81)).heap.size = w.heap.size + 2 := by simp
  clear hw2
  have hKL := HK.out.lt
  have hk0 : KAt w2 := HK.out.below hb0 hKL
  have hI0 : InvB w s [] w2 := ⟨hs0, hd0, hk0, hb0⟩
  have HSEQ := chunk_seq w w2 p k c xs (by rw [HN.out]; exact HX.out) (by rw [HN.out]; exact hb) (fun j hj => hb0.block j hj) (w.heap.size + 2) (by omega) (by omega) (by rw [HN.out]; exact hc0) hc1 2
  clear hs0 hd0 hb0 hc0 hc1 hk0
  refine wpIn_rangeFunc_cl rfl (by omega) (gf := 74) (lb := #[.pointer (some ⟨w.heap.size + 2, 0, none⟩), .pointer (some ⟨w.heap.size + 3, 0, none⟩)]) rfl trivial (enters_of Tryd.func74 (by kernel_rfl) rfl) (fun _ => rfl) HSEQ (by omega) (by omega)
    (byt_abides _) (none_abides _ _) (InvB w s) (invB_abides w s _ _ (by omega) (by omega) hKL) hI0
    (fun x => { tmps := #[(.agg #[.int .u32 s.a, .int .u32 s.b, .int .u32 s.c, .int .u32 s.d, .int .u32 s.e, .int .u32 s.f, .int .u32 s.g, .int .u32 s.h]), .slice p n c, .pointer (some ⟨w.heap.size, 0, none⟩), undef, .pointer (some ⟨w.heap.size + 1, 0, none⟩), .slice x.p 64 64, .slice p n c, .func (.func 74) #[] #[.pointer (some ⟨w.heap.size + 2, 0, none⟩), .pointer (some ⟨w.heap.size + 3, 0, none⟩)], .slice x.p 64 64, undef, undef, undef, undef, undef, undef, undef], defers := [] }) ?assign ?body ?done
  case assign =>
    intro l x U K hK
    simp only [encCh]
    gi_wp2
    exact hK
  case body =>
    rintro l pre x U2 ⟨hs, hd, hk, hbl⟩ hbyt hlen hU
    obtain ⟨T, hT⟩ : ∃ T, foldB (pre.map (·.b)) s = T := ⟨_, rfl⟩
    rw [hT] at hs
    have HT := Is.mk hT
    have HS := hidden hs
    have HD := hidden hd
    have HBL := hidden hbl
    have HC := hidden (block_any T x.p 64 x.b U2 hbyt hk)
    have HL : Hid (U2.heap[w.heap.size]? = some (.cells #[.int .u32 T.a, .int .u32 T.b, .int .u32 T.c, .int .u32 T.d, .int .u32 T.e, .int .u32 T.f, .int .u32 T.g, .int .u32 T.h] 81 (0, 0))) := hs.heap
    have hlt := hd.lt
    have HK2 := hidden hk
    clear hT hs hd hbl hbyt hk
    gi_wp2_with (first
      | (refine wpListIn_load_row rfl 81 _ rfl w.heap.size rfl 81 _ (0, 0) _ HL.out Tryd.underlying81 rfl info8 ?_)
      | (refine ⟨trivial, ?_⟩; gi_at_call 68; (with_reducible refine CallsIn.inRound l ((callsIn_wide (n := 3)).2 ((HC.out).mono ?_))); rintro e w3 ⟨rfl, hb3⟩; have HS3 := hidden (HS.out.below hb3); have HB3 := hidden hb3; clear hb3)
      | (refine wpListIn_store_row rfl 81 _ _ rfl w.heap.size ((blockS T x.b).list.map (Value.int .u32)).toArray rfl rfl 81 _ HS3.out.heap info8 rfl (one32 _) ?_)
      | fail)
    have hg3 : w3.grownBy (w3.setRow w.heap.size ((blockS T x.b).list.map (Value.int .u32)).toArray) (some w.heap.size) := ⟨rfl, rfl, rfl, by simp [World.setRow], fun j hj hne => setRow_other _ _ _ _ (fun e => hne (by rw [e]))⟩
    have hb3 := HB3.out
    have hkx : KeepX w.heap.size w2.heap.size U2 w3 := KeepX.of_below (hb3.mono hU)
    have hf : foldB ((pre ++ [x]).map (·.b)) s = blockS T x.b := by rw [List.map_append, foldB_append, HT.eq]; rfl
    refine ⟨(KeepsOthers.of_grownBy (row := none) (⟨hb3.os, hb3.tape, hb3.output, hb3.size, fun k hk _ => hb3.block k hk⟩ : U2.grownBy w3 none) (fun j o e ho => by cases e)).trans (KeepsOthers.of_grownBy hg3 (fun j o e ho => ?_)), hkx.trans (KeepX.setRow _ _), ?_, (HD.out.below hb3).rowOther _ _ (by omega), ?_, (HBL.out.trans (hb3.mono HBL.out.size)).grown hg3 (Nat.le_trans HBL.out.size hb3.size) (fun j e => by cases e; omega)⟩
    · cases e
      rw [HS3.out.heap] at ho
      cases ho
      rfl
    · rw [hf]
      exact HS3.out.row _
    · exact (HK2.out.below hb3 HK2.out.lt).below ((Below.refl w.heap.size w3).grown hg3 (Nat.le_trans HBL.out.size hb3.size) (fun j e => by cases e; omega)) hKL
  case done =>
    rintro D pre W hD hT ⟨hs, hd, hk, hbl⟩ hK
    have hf : foldB (pre.map (·.b)) s = R := by rw [hT, foldB_chunks, HR.eq]
    rw [hf] at hs
    have HL : Hid (W.heap[w.heap.size]? = some (.cells #[.int .u32 R.a, .int .u32 R.b, .int .u32 R.c, .int .u32 R.d, .int .u32 R.e, .int .u32 R.f, .int .u32 R.g, .int .u32 R.h] 81 (0, 0))) := hs.heap
    have HD := hidden hd
    have HONE : Hid ((#[.int .u32 R.a, .int .u32 R.b, .int .u32 R.c, .int .u32 R.d, .int .u32 R.e, .int .u32 R.f, .int .u32 R.g, .int .u32 R.h] : Array Value).all (·.oneCell') = true) := one32 R.list
    have HBL := hidden hbl
    have HKD := hidden hK
    have hlt := hd.lt
    clear hs hd hk hbl hK hf hT
    gi_wp2_with (first
      | (refine wpListIn_load_row rfl 81 _ rfl w.heap.size rfl 81 _ (0, 0) _ HL.out Tryd.underlying81 rfl info8 ?_)
      | (refine wpListIn_store_row rfl 81 _ _ rfl (w.heap.size + 1) #[.int .u32 R.a, .int .u32 R.b, .int .u32 R.c, .int .u32 R.d, .int .u32 R.e, .int .u32 R.f, .int .u32 R.g, .int .u32 R.h] rfl rfl 81 _ HD.out.heap info8 rfl HONE.out ?_)
      | fail)
    have hR1 : (W.setRow (w.heap.size + 1) #[.int .u32 R.a, .int .u32 R.b, .int .u32 R.c, .int .u32 R.d, .int .u32 R.e, .int .u32 R.f, .int .u32 R.g, .int .u32 R.h]).heap[w.heap.size + 1]? = some (.cells #[.int .u32 R.a, .int .u32 R.b, .int .u32 R.c, .int .u32 R.d, .int .u32 R.e, .int .u32 R.f, .int .u32 R.g, .int .u32 R.h] 81 (0, 0)) := setRow_heap _ _ _ _ _ _ HD.out.heap
    have hKD : (W.setRow (w.heap.size + 1) #[.int .u32 R.a, .int .u32 R.b, .int .u32 R.c, .int .u32 R.d, .int .u32 R.e, .int .u32 R.f, .int .u32 R.g, .int .u32 R.h]).heap[D]? = some (.deferred (some [])) := (setRow_other _ _ _ _ (by omega)).trans HKD.out
    have hg1 : W.grownBy (W.setRow (w.heap.size + 1) #[.int .u32 R.a, .int .u32 R.b, .int .u32 R.c, .int .u32 R.d, .int .u32 R.e, .int .u32 R.f, .int .u32 R.g, .int .u32 R.h]) (some (w.heap.size + 1)) := ⟨rfl, rfl, rfl, by simp [World.setRow], fun j hj hne => setRow_other _ _ _ _ (fun e => hne (by rw [e]))⟩
    have hbW := (HBL.out.grown hg1 HBL.out.size (fun j e => by cases e; omega)).trans (below_put (B := w.heap.size) (W.setRow (w.heap.size + 1) #[.int .u32 R.a, .int .u32 R.b, .int .u32 R.c, .int .u32 R.d, .int .u32 R.e, .int .u32 R.f, .int .u32 R.g, .int .u32 R.h]) D (.deferred none) (by omega) (by simp [World.setRow]; omega))
    refine ⟨by simp, .inl ⟨_, _, rfl, run_takeDeferred hKD, ?_⟩⟩
    refine ⟨_, results_cell_row rfl _ _ (w.heap.size + 1) 81 #[.int .u32 R.a, .int .u32 R.b, .int .u32 R.c, .int .u32 R.d, .int .u32 R.e, .int .u32 R.f, .int .u32 R.g, .int .u32 R.h] (0, 0) _ rfl ((World.putObj_heap_other (by omega)).trans hR1) Tryd.underlying81 rfl info8, rfl, hbW⟩
end Go.Proofs.YtgpigjoonhghhaaDoor
