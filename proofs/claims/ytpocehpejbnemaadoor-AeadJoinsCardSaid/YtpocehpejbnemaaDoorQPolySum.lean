/-
  poly1305.Sum of a key that has its length.
-/
import Derived.Test.YtpocehpejbnemaaDoorQZ1
import Derived.Test.YtpocehpejbnemaaDoorQPolyChunk
import Derived.Test.YtpocehpejbnemaaDoorQRegInv
import Derived.Test.YtpocehpejbnemaaDoorQHeldIn
import Derived.Test.YtpocehpejbnemaaDoorQBod
import Derived.ControlIn
namespace Go.Proofs.YtpocehpejbnemaaDoor
open Go.RowKit Go.Shelf
set_option linter.unusedVariables false
set_option linter.unusedSimpArgs false
attribute [local go_sem] Oper.semAt_some

section
variable {P : Program} {o : Oper} {a : Act} {w : World}
theorem exec_load_row (ty : TypeId) (x : Operand) (ho : o.op = .load ty x)
    (g : Nat) (hx : a.eval x = .pointer (some ⟨g, 0, none⟩)) (t : TypeId) (cs : Array Value) (fr : Nat × Nat) (d : TypeDesc) (hg : w.heap[g]? = some (.cells cs t fr))
    (hu : P.underlying ty = some d) (hd : (match d with | .struct _ | .array _ _ => true | _ => false) = true) (hi : (P.info? ty).map (·.size) = some cs.size) :
    (execOp a.eval o).run P w = .ok (.value (.agg cs)) w := by
  unfold execOp
  simp only [ho, hx, Instr.loadAt, Instr.sureAddr, Sem.run_bind, Sem.run_pure, Result.andThen_ok, run_loadVar_row w g t ty cs fr d hg hu hd hi]
theorem exec_store_row (ty : TypeId) (x y : Operand) (ho : o.op = .store ty x y)
    (g : Nat) (cells : Array Value) (hx : a.eval x = .pointer (some ⟨g, 0, none⟩)) (hy : a.eval y = .agg cells)
    (t : TypeId) (old : Array Value) (hg : w.heap[g]? = some (.cells old t (0, 0))) (hi : (P.info? ty).map (·.size) = some cells.size)
    (hold : old.size = cells.size) (h1 : cells.all (·.oneCell') = true) : (execOp a.eval o).run P w = .ok .skip (w.setRow g cells) := by
  unfold execOp
  simp only [ho, hx, hy, Instr.storeAt, Instr.sureAddr, Sem.run_bind, Sem.run_pure, Result.andThen_ok, run_storeVar_row w g t ty old cells hg hi hold h1]
theorem op_of_exec {ops : Array Oper} {K : Act → World → Prop} {Q : Exit → Act → World → Prop} {v : Value} {w' : World} (hg : o.guard = none) (he : (execOp a.eval o).run P w = .ok (.value v) w') (h : K (a.put o.dst v) w') :
    if Region.wanted o (yielded ops a.tmps) = true then Oper.wp P o a w K Q else K (a.put o.dst undef) w := by
  rw [if_pos (by simp [Region.wanted, hg])]
  unfold Oper.wp
  rw [he]
  exact h
theorem op_of_skip {ops : Array Oper} {K : Act → World → Prop} {Q : Exit → Act → World → Prop} {w' : World} (hg : o.guard = none) (he : (execOp a.eval o).run P w = .ok .skip w') (h : K (a.put o.dst undef) w') :
    if Region.wanted o (yielded ops a.tmps) = true then Oper.wp P o a w K Q else K (a.put o.dst undef) w := by
  rw [if_pos (by simp [Region.wanted, hg])]
  unfold Oper.wp
  rw [he]
  exact h
theorem op_of_call {ops : Array Oper} {K : Act → World → Prop} {Q : Exit → Act → World → Prop} (hg : o.guard = none) (h : Oper.wp P o a w K Q) :
    if Region.wanted o (yielded ops a.tmps) = true then Oper.wp P o a w K Q else K (a.put o.dst undef) w := by
  rw [if_pos (by simp [Region.wanted, hg])]
  exact h
end

/-- What the rounds keep. -/
structure InvP (w : World) (gr gs gv : Nat) (RL SL : List Int) (kr : Int) (pre : List Ch6) (U : World) : Prop where
  bel : Below w.heap.size w U
  rr : Wn .u64 U gr 92 RL
  ss : Wn .u64 U gs 92 SL
  vv : ∃ V, Wn .u64 U gv 92 V ∧ Lm 67108869 67108864 V ∧ ∃ t, num B26 V + t * P130 = (pre.map (·.b)).foldl (stepP kr) 0
theorem InvP.grown {w : World} {gr gs gv : Nat} {RL SL : List Int} {kr : Int} {pre : List Ch6} {U U' : World} {row : Option Nat} (h : InvP w gr gs gv RL SL kr pre U) (hg : U.grownBy U' row) (hr : ∀ k, row = some k → w.heap.size ≤ k ∧ k ≠ gr ∧ k ≠ gs ∧ k ≠ gv) : InvP w gr gs gv RL SL kr pre U' := by
  obtain ⟨V, hV, hl, ht⟩ := h.vv
  exact ⟨h.bel.grown hg h.bel.size (fun k e => (hr k e).1), h.rr.grown hg (fun e => (hr _ e.symm).2.1 rfl), h.ss.grown hg (fun e => (hr _ e.symm).2.2.1 rfl), V, hV.grown hg (fun e => (hr _ e.symm).2.2.2 rfl), hl, ht⟩
theorem invP_abides (w : World) (gr gs gv : Nat) (RL SL : List Int) (kr : Int) (Bd : Nat) (hw : w.heap.size ≤ Bd) (h1 : gr < Bd) (h2 : gs < Bd) (h3 : gv < Bd) : AbidesN Bd (InvP w gr gs gv RL SL kr) := fun pre U U' row h hgr hr =>
  h.grown hgr (fun k e => by
    obtain ⟨k1, _⟩ := hr k e
    refine ⟨by omega, by omega, by omega, by omega⟩)
theorem ch6_abides (Bd B0 : Nat) : AbidesN Bd (fun (x : Ch6) U => Byt U x.p x.n x.n x.b ∧ x.n ≤ 16 ∧ ∃ bb oo, x.p = some ⟨bb, oo, none⟩ ∧ bb < B0) := fun x U U' row h hg hr =>
  ⟨h.1.keep fun a v ha => hg.cell ha (fun e => by
    obtain ⟨o, ho, hc⟩ := cells_of_cell ha
    obtain ⟨_, o', ho', hc'⟩ := hr _ e.symm
    rw [ho] at ho'
    cases ho'
    rw [hc] at hc'
    cases hc'), h.2⟩
theorem list6_abides (Bd : Nat) (p : List Ch6 → Prop) : AbidesN Bd (fun (x : List Ch6) (_ : World) => p x) := fun x U U' row h hg hr => h
theorem grown_putP (W : World) (d : Nat) (ob : Obj) : W.grownBy (W.putObj d ob) (some d) := ⟨rfl, rfl, rfl, by simp, fun k hk hne => World.putObj_heap_other (fun e => hne (by rw [e]))⟩
theorem grown_rowP (W : World) (g : Nat) (cs : Array Value) : W.grownBy (W.setRow g cs) (some g) := ⟨rfl, rfl, rfl, by simp, fun k hk hne => setRow_other W g k cs (fun e => hne (by rw [e]))⟩
theorem Own.typedP {w : World} {base : Nat} {e : TypeId} {v : Value} {xs : List Int} (h : Own w base e v xs) (k : Nat) (hk : v.ownBlock = some k) : ∃ cur, w.heap[k]? = some (.cells cur e (0, 0)) := by
  rcases h.2 with ⟨rfl, _⟩ | ⟨g, cap, cur, rfl, _, hh, _⟩
  · simp [Value.ownBlock] at hk
  · simp [Value.ownBlock] at hk
    subst hk
    exact ⟨cur, hh⟩
theorem Own.staysP {U U' : World} {base : Nat} {e : TypeId} {v : Value} {xs : List Int} {row : Option Nat} (h : Own U base e v xs) (hg : U.grownBy U' row) (hr : ∀ k, row = some k → ∀ cur, U.heap[k]? ≠ some (.cells cur e (0, 0))) : Own U' base e v xs :=
  World.ownsRow.kept h hg (by
    rcases hv : v.ownBlock with _ | b
    · exact Or.inl rfl
    · obtain ⟨cur, hc⟩ := h.typedP b hv
      refine Or.inr fun e => ?_
      exact hr b e.symm cur hc)
/-- A round's value. -/
theorem step_val (kr acc v m r t t' : Int) (h : v + t * P130 = acc) (h' : r + t' * P130 = (v + m) * kr) (s : Int) (hs : ((acc + m) * kr) % P130 = s) : ∃ u, r + u * P130 = s := by
  refine ⟨t' + t * kr - ((acc + m) * kr) / P130, ?_⟩
  have := Int.mul_ediv_add_emod ((acc + m) * kr) P130
  rw [hs] at this
  subst h
  grind
/-- The last value. -/
theorem end_val (v acc t s : Int) (h0 : 0 ≤ v) (h1 : v < 1361129467683753853853498429727072845829) (ha : 0 ≤ acc ∧ acc < P130) (h : v + t * P130 = acc) :
    dig 256 16 (v + 5 * ((v + 5) / 1361129467683753853853498429727072845824) + s) = dig 256 16 (acc + s) := by
  unfold P130 at ha h
  have e : (256 : Int) ^ 16 = 340282366920938463463374607431768211456 := by decide
  have ht : t = 0 ∨ t = -1 := by omega
  rcases ht with rfl | rfl
  · have : (v + 5) / 1361129467683753853853498429727072845824 = 0 := by omega
    rw [this]
    congr 1
    omega
  · have : (v + 5) / 1361129467683753853853498429727072845824 = 1 := by omega
    have h2 : v + 5 * ((v + 5) / 1361129467683753853853498429727072845824) + s = acc + s + 256 ^ 16 * 4 := by rw [this, e]; omega
    rw [h2, dig_add _ (by omega)]
theorem clampL_take (xs : List Int) (n : Nat) (hn : n ≤ 16) : clampL (xs.take 16) n = clampL xs n := by
  induction n with
  | zero => rfl
  | succ n ih =>
    have e : (xs.take 16).getD n 0 = xs.getD n 0 := by
      rw [List.getD_eq_getElem?_getD, List.getD_eq_getElem?_getD, List.getElem?_take, if_pos (by omega)]
    rw [clampL, clampL, ih (by omega), e]
/-- The frame in the last statement. -/
def frE (p p' r : Option Addr) (c n e gr gs gv dd : Nat) (RL SL : Array Value) (v28 v29 v30 v31 : Value) : Act :=
  { tmps := #[.slice p 32 c, .slice r n e, undef, undef, .slice none 0 0, .bool false, .pointer (some ⟨gr, 0, none⟩), .pointer (some ⟨gs, 0, none⟩), .pointer (some ⟨gv, 0, none⟩), undef, .slice p 32 c, .int .i64 32, .bool false, .slice p 32 c, .slice p 16 c, .agg RL, .slice p 32 c, .slice p' 16 (c - 16), .agg SL, .slice r n e, .func (.func 85) #[] #[.pointer (some ⟨gv + 1, 0, none⟩), .pointer (some ⟨gv + 1 + 1, 0, none⟩)], undef, undef, undef, undef, undef, undef, undef, v28, v29, v30, v31, undef], defers := [{ target := .collected dd, args := #[] }] }
structure PhE (W0 : World) (p p' r : Option Addr) (c n e gr gs gv dd : Nat) (RL SL V : List Int) (l : Array Bool) (a : Act) (U : World) : Prop where
  ex : ∃ c0 c1 c2 c3 v28 v29 v30 v31, l = #[c0, c1, c2, c3, false, false, false] ∧ a = frE p p' r c n e gr gs gv dd (ints .u64 RL) (ints .u64 SL) v28 v29 v30 v31 ∧ Below W0.heap.size W0 U ∧ (c1 = true → c0 = true) ∧ (c3 = true → c1 = true ∧ c2 = true) ∧
    (c0 = true → v28 = .agg (ints .u64 V)) ∧
    (c1 = true → ∃ R, v29 = .agg (ints .u64 R) ∧ Lm 67108879 67108864 R ∧ num B26 R = num B26 V + 5 * ((num B26 V + 5) / 1361129467683753853853498429727072845824)) ∧
    (c2 = true → v30 = .agg (ints .u64 SL)) ∧
    (c3 = true → ∃ R, v31 = .agg (ints .u64 R) ∧ Lm 268435456 268435456 R ∧ num B26 R = num B26 V + 5 * ((num B26 V + 5) / 1361129467683753853853498429727072845824) + num B26 SL)
/-- The frame in the first statement that draws its order. -/
def frP (p r : Option Addr) (c n e : Nat) (v13 v14 v15 v16 v17 v18 v6 v7 : Value) : Act :=
  { tmps := #[.slice p 32 c, .slice r n e, undef, undef, .slice none 0 0, .bool false, v6, v7, undef, undef, .slice p 32 c, .int .i64 32, .bool false, v13, v14, v15, v16, v17, v18, undef, undef, undef, undef, undef, undef, undef, undef, undef, undef, undef, undef, undef, undef], defers := [] }
/-- What is known of a limb number's variable. -/
def NewZ (w0 U : World) (v : Value) (g : Nat) : Prop := v = .pointer (some ⟨g, 0, none⟩) ∧ w0.heap.size ≤ g ∧ Wn .u64 U g 92 (List.replicate 5 0)
theorem NewZ.below {w0 U U' : World} {v : Value} {g : Nat} (h : NewZ w0 U v g) (hb : Below U.heap.size U U') : NewZ w0 U' v g := ⟨h.1, h.2.1, h.2.2.below hb⟩
structure Phi (w0 : World) (p p' r : Option Addr) (c n e : Nat) (kr ks : Int) (l : Array Bool) (a : Act) (U : World) : Prop where
  ex : ∃ b0 b1 b2 b3 b4 b5 b6 b7 v13 v14 v15 v16 v17 v18 v6 v7, l = #[b0, b1, b2, b3, b4, b5, b6, b7, false, false] ∧ a = frP p r c n e v13 v14 v15 v16 v17 v18 v6 v7 ∧ Below w0.heap.size w0 U ∧ (b5 = true → b4 = true) ∧ (b4 = true → b3 = true) ∧
    (b0 = true → v13 = .slice p 32 c) ∧ (b1 = true → v14 = .slice p 16 c) ∧ (b3 = true → v16 = .slice p 32 c) ∧ (b4 = true → v17 = .slice p' 16 (c - 16)) ∧
    (b2 = true → ∃ R, v15 = .agg (ints .u64 R) ∧ Lm 67108864 67108864 R ∧ num B26 R = kr) ∧ (b5 = true → ∃ R, v18 = .agg (ints .u64 R) ∧ Lm 67108864 67108864 R ∧ num B26 R = ks) ∧
    (b6 = true → ∃ g, NewZ w0 U v6 g) ∧ (b7 = true → ∃ g, NewZ w0 U v7 g) ∧ (b6 = true → b7 = true → ∀ g g', v6 = .pointer (some ⟨g, 0, none⟩) → v7 = .pointer (some ⟨g', 0, none⟩) → g ≠ g')

set_option maxHeartbeats 3200000 in
set_option maxRecDepth 100000 in
theorem psum_yes (p r : Option Addr) (c n e : Nat) (key b : List Int) (w : World) (h : Byt w p 32 c key) (hb : Byt w r n e b) (hn : n ≤ 140737488355000) :
    Calls Tryd.prog 26 #[.slice p 32 c, .slice r n e] w fun en w' => ∃ v, en = .returned (.tuple #[v, .bool true]) ∧ Own w' w.heap.size 5 v (tagS key b) ∧ Below w.heap.size w w' := by
  obtain ⟨TG, hTG⟩ : ∃ TG, tagS key b = TG := ⟨_, rfl⟩
  rw [hTG]
  have HTG0 := Is.mk hTG
  clear hTG
  have hcap := h.cap
  have hbig := h.big
  have hlen := h.len
  obtain ⟨bk, ok, rfl, -⟩ := h.at_ (by omega)
  have k1 := h.front 16 (by omega)
  have k2 := h.part 16 32 (by omega) (by omega)
  have hc16 : ¬ c = 16 := by omega
  have hcc : (16 : Int) ≤ (c : Int) := by omega
  have hcd : ¬ (c : Int) < 16 := by omega
  rw [if_neg hc16, List.take_of_length_le (by omega), show Option.map (fun x : Addr => x.add 16) (some ⟨bk, ok, none⟩) = some ⟨bk, ok + 16, none⟩ by simp [Addr.add]] at k2
  have HF := hidden (fun W (hW : Below w.heap.size w W) => factor_any (some ⟨bk, ok, none⟩) c (key.take 16) W (k1.below hW))
  have HG := hidden (fun W (hW : Below w.heap.size w W) => numberOf_any _ 16 (c - 16) (key.drop 16) W (k2.below hW) (by omega))
  have HB := hidden hb
  clear h hb k1 k2
  refine (callsIn_wide (n := 6)).1 ?_
  refine callsIn_of_wp_marks Tryd.func26 rfl trivial ?_ rfl
  simp only [Tryd.ntmps26, List.size_toArray, List.length_cons, List.length_nil, Nat.reduceAdd, Nat.reduceSub, Array.replicate_succ, Array.replicate_zero, List.push_toArray, List.append_toArray, List.nil_append, List.cons_append]
  gi_wp2_with fail
  refine wpIn_wide.2 ?_
  refine wp_region_any (by kernel_rfl) ?_
  have hb0 : Below w.heap.size w w.drew := (Below.refl _ w).drew
  refine any_inv (Phi w (some ⟨bk, ok, none⟩) (some ⟨bk, ok + 16, none⟩) r c n e (num 256 (clampL (key.take 16) 16)) (num 256 (key.drop 16))) ?_ 10 _ _ _ (by decide) ⟨false, false, false, false, false, false, false, false, undef, undef, undef, undef, undef, undef, undef, undef, rfl, rfl, hb0, fun h => (by cases h), fun h => (by cases h), fun h => (by cases h), fun h => (by cases h), fun h => (by cases h), fun h => (by cases h), fun h => (by cases h), fun h => (by cases h), fun h => (by cases h), fun h => (by cases h), fun h => (by cases h)⟩
  rintro l a U ⟨b0, b1, b2, b3, b4, b5, b6, b7, v13, v14, v15, v16, v17, v18, v6, v7, rfl, rfl, hbel, h54, h43, q13, q14, q16, q17, q15, q18, q6, q7, q67⟩
  have HBEL := hidden hbel
  by_cases hall : b0 = true ∧ b1 = true ∧ b2 = true ∧ b3 = true ∧ b4 = true ∧ b5 = true ∧ b6 = true ∧ b7 = true
  · left
    obtain ⟨rfl, rfl, rfl, rfl, rfl, rfl, rfl, rfl⟩ := hall
    obtain rfl := q13 rfl
    obtain rfl := q14 rfl
    obtain rfl := q16 rfl
    obtain rfl := q17 rfl
    obtain ⟨RL, rfl, hRl, hRv⟩ := q15 rfl
    obtain ⟨SL, rfl, hSl, hSv⟩ := q18 rfl
    obtain ⟨gr, rfl, hgr, hzr⟩ := q6 rfl
    obtain ⟨gs, rfl, hgs, hzs⟩ := q7 rfl
    have hne := q67 rfl rfl gr gs rfl rfl
    have HRI := hidden (infoL RL hRl.len)
    have HSI := hidden (infoL SL hSl.len)
    have HRZ : Hid ((ints .u64 (List.replicate 5 (0 : Int))).size = (ints .u64 RL).size) := by show _ = _; rw [ints_size, ints_size, hRl.len]; rfl
    have HSZ : Hid ((ints .u64 (List.replicate 5 (0 : Int))).size = (ints .u64 SL).size) := by show _ = _; rw [ints_size, ints_size, hSl.len]; rfl
    have HZS2 : Hid (Wn .u64 (U.setRow gr (ints .u64 RL)) gs 92 (List.replicate 5 0)) := hzs.rowOther _ _ (fun e => hne e.symm)
    have HR2 := hidden (hzr.row RL)
    have HR3 := hidden (HR2.out.rowOther gs (ints .u64 SL) hne)
    have HS3 := hidden (HZS2.out.row SL)
    have HB3 := hidden (below_setRow (below_setRow HBEL.out hgr (ints .u64 RL)) hgs (ints .u64 SL))
    intro m hm
    obtain ⟨m, rfl⟩ : ∃ k, m = k + 2 := ⟨m - 2, by have : cnt #[true, true, true, true, true, true, true, true, false, false] = 2 := by decide
                                                   omega⟩
    refine any_one (i := 8) (by kernel_rfl) rfl (fun K' hK => ?_)
    refine op_of_skip rfl (exec_store_row 92 _ _ rfl gr (ints .u64 RL) rfl rfl 92 _ hzr.heap HRI.out HRZ.out (onek .u64 RL)) (hK.out _ _ ?_)
    clear hK K'
    refine any_one (i := 9) (by kernel_rfl) rfl (fun K' hK => ?_)
    refine op_of_skip rfl (exec_store_row 92 _ _ rfl gs (ints .u64 SL) rfl rfl 92 _ HZS2.out.heap HSI.out HSZ.out (onek .u64 SL)) (hK.out _ _ ?_)
    clear hK K'
    refine any_done (by kernel_rfl) ?_ _
    have HRL := hidden hRl
    have HSL := hidden hSl
    have HRV := Is.mk hRv
    have HSV := Is.mk hSv
    clear hzr hzs HR2 HZS2 HRZ HSZ hRl hSl hRv hSv HBEL hbel HF HG
    generalize World.setRow _ gs (ints .u64 SL) = U3 at *
    unfold frP
    gi_wp2_with (first
      | (refine ⟨trivial, ?_⟩; gi_at_call 45; (with_reducible refine (callsIn_wide (n := 5)).2 ((chunk6_fn r n e _).mono ?_)); rintro en w5 ⟨rfl, hw5⟩)
      | fail)
    obtain ⟨gv, hgv⟩ : ∃ gv, U3.heap.size = gv := ⟨_, rfl⟩
    have hz5 : w5.heap.size = gv + 3 := by rw [← hw5, ← hgv]; simp
    have hwv : w.heap.size ≤ gv := by have := HB3.out.size; omega
    have hgrv : gr < gv := by have := HR3.out.lt; omega
    have hgsv : gs < gv := by have := HS3.out.lt; omega
    have hb5 : Below w.heap.size w w5 := by
      rw [← hw5]
      exact ((HB3.out.alloc HB3.out.size _).alloc (by simp; omega) _).alloc (by simp; omega) _
    obtain ⟨kr, hkr⟩ : ∃ kr, num 256 (clampL (List.take 16 key) 16) = kr := ⟨_, rfl⟩
    have HKR := Is.mk hkr
    have hI5 : InvP w gr gs gv RL SL kr [] w5 := by
      have e0 : ∀ {W : World} {o : Obj} {g : Nat} {l : List Int}, Wn .u64 W g 92 l → Wn .u64 (W.alloc o) g 92 l := fun h => h.alloc _
      refine ⟨hb5, ?_, ?_, [0, 0, 0, 0, 0], ?_, ?_, 0, ?_⟩
      · rw [← hw5]; exact e0 (e0 (e0 HR3.out))
      · rw [← hw5]; exact e0 (e0 (e0 HS3.out))
      · rw [← hw5]; exact e0 (e0 (Wn.new' .u64 U3 92 [0, 0, 0, 0, 0] _ rfl gv hgv))
      · exact Lm.of _ _ _ _ _ _ _ (by omega) (by omega) (by omega) (by omega) (by omega)
      · simp [num]
    have hc0 : w5.cell? ⟨gv + 1, 0, none⟩ = some (.slice r n e) := by
      have e2 := heap_alloc_new (U3.alloc (.cells #[.int .u64 0, .int .u64 0, .int .u64 0, .int .u64 0, .int .u64 0] 92)) (.cells #[.slice r n e] 22)
      rw [World.size_alloc, hgv] at e2
      have e3 : w5.heap[gv + 1]? = some (.cells #[.slice r n e] 22 (0, 0)) := by
        rw [← hw5, Below.heap_alloc _ _ _ (by simp; omega)]
        exact e2
      rw [cell_of_row w5 _ _ _ _ _ e3]; rfl
    have hc1 : w5.cell? ⟨gv + 1 + 1, 0, none⟩ = some (.int .i64 16) := by
      have e2 := heap_alloc_new ((U3.alloc (.cells #[.int .u64 0, .int .u64 0, .int .u64 0, .int .u64 0, .int .u64 0] 92)).alloc (.cells #[.slice r n e] 22)) (.cells #[.int .i64 16] 3)
      rw [World.size_alloc, World.size_alloc, hgv] at e2
      rw [hw5] at e2
      rw [cell_of_row w5 _ _ _ _ _ e2]; rfl
    have hbg := HB.out.big
    have hbc := HB.out.cap
    have hbl := HB.out.len
    have HBL := Is.mk hbl
    have hK0 : n ≤ 16 * piecesN n := by unfold piecesN; omega
    have hK1 : 16 * piecesN n < n + 16 := by unfold piecesN; omega
    have HSEQ := chunk6_seq w w5 r (piecesN n) n e b HB.out hn hK0 hK1 (fun j hj => hb5.block j hj) (gv + 1) (by omega) (by omega) hc0 hc1 (fun j => j < w.heap.size ∨ j = gv + 1 ∨ j = gv + 1 + 1) (fun j h => h) 2
    have HTG : Is TG (dig 256 16 (accS kr b (piecesN n) + num 256 (key.drop 16))) := ⟨by
      rw [← HTG0.eq]
      unfold tagS rS
      rw [hbl, ← clampL_take key 16 (by omega), hkr]⟩
    have HSVR := hidden (accS_rng kr b (piecesN n))
    have HACC : Hid (∀ l : List (List Int), l = pieces (piecesN n) b → l.foldl (stepP kr) 0 = accS kr b (piecesN n)) := fun l hl => by rw [hl]; rfl
    simp only [hgv]
    generalize accS kr b (piecesN n) = AC at *
    generalize piecesN n = K at *
    clear hc0 hc1 HTG0 hw5 HR3 HS3 HB3 h43 h54 q13 q14 q16 q17 q15 q18 q6 q7 q67 hm hbl hkr HB hgv hK0 hK1
    refine wpIn_rangeFunc_ks rfl (by omega) (gf := 85) (lb := #[.pointer (some ⟨gv + 1, 0, none⟩), .pointer (some ⟨gv + 1 + 1, 0, none⟩)]) rfl trivial (enters_of Tryd.func85 (by kernel_rfl) rfl) (fun _ => rfl) HSEQ (fun k hk => by omega)
      (ch6_abides _ _) (list6_abides _ _) (InvP w gr gs gv RL SL kr) (invP_abides w gr gs gv RL SL kr _ (by omega) (by omega) (by omega) (by omega)) hI5
      (fun x => { tmps := #[.slice (some ⟨bk, ok, none⟩) 32 c, .slice r n e, undef, undef, .slice none 0 0, .bool false, .pointer (some ⟨gr, 0, none⟩), .pointer (some ⟨gs, 0, none⟩), .pointer (some ⟨gv, 0, none⟩), .slice x.p x.n x.n, .slice (some ⟨bk, ok, none⟩) 32 c, .int .i64 32, .bool false, .slice (some ⟨bk, ok, none⟩) 32 c, .slice (some ⟨bk, ok, none⟩) 16 c, .agg (ints .u64 RL), .slice (some ⟨bk, ok, none⟩) 32 c, .slice (some ⟨bk, ok + 16, none⟩) 16 (c - 16), .agg (ints .u64 SL), .slice r n e, .func (.func 85) #[] #[.pointer (some ⟨gv + 1, 0, none⟩), .pointer (some ⟨gv + 1 + 1, 0, none⟩)], .slice x.p x.n x.n, undef, undef, undef, undef, undef, undef, undef, undef, undef, undef, undef], defers := [] }) ?assign ?body ?done
    case assign =>
      intro l x U K hK
      simp only [encCh6]
      gi_wp2
      exact hK
    case body =>
      rintro l pre x U2 hI ⟨hbyt, hx16, -⟩ hlen hU
      obtain ⟨V, hV, hVl, t, ht⟩ := hI.vv
      have HM := hidden (fun W (hW : Below U2.heap.size U2 W) => marked_any x.p x.n x.n x.b W (hbyt.below hW) hx16)
      have HRR := hidden hI.rr
      have HVV := hidden hV
      have HII := hidden hI
      have HVL := hidden hVl
      have HT := hidden ht
      have HVI := hidden (infoL V hVl.len)
      clear hI hbyt hV hVl ht
      gi_wp2_with fail
      refine regionIn_round (by kernel_rfl) (by kernel_rfl) ?_ ?_
      · rintro ⟨a0, w0, h0⟩; exact h0
      refine any_of_C (c := 6) (S0 := fun _ => True) (S1 := fun w' => Wn .u64 w' gv 92 V ∧ Wn .u64 w' gr 92 RL) _ _ _ _ ?_
      have hS1 : Wn .u64 U2.drew gv 92 V ∧ Wn .u64 U2.drew gr 92 RL := ⟨HVV.out.drew, HRR.out.drew⟩
      refine anyC_take1 (i := 0) (v := .agg (ints .u64 V)) rfl rfl (by decide) (by kernel_rfl) (by kernel_rfl) (by kernel_rfl) (by kernel_rfl) (by kernel_rfl) (fun _ _ _ h => h) (Or.inl ⟨by rfl, ?_⟩) trivial hS1 ?_
      · rintro w0 ⟨-, t0, t1⟩
        exact exec_load_row 92 _ rfl gv rfl 92 _ (0, 0) _ t0.heap Tryd.underlying92 rfl HVI.out
      (try simp only [Act.put, List.setIfInBounds_toArray, List.set_cons_zero, List.set_cons_succ])
      refine anyC_take (i := 1) (v := .slice x.p x.n x.n) rfl rfl (by decide) (by kernel_rfl) (by kernel_rfl) (by kernel_rfl) (fun _ _ _ h => h) (Or.inl ⟨by rfl, ?_⟩) trivial (fun _ => hS1) ?_
      · intro w0 _; go_simp; (try with_reducible rfl)
      (try simp only [Act.put, List.setIfInBounds_toArray, List.set_cons_zero, List.set_cons_succ])
      refine anyC_take1 (i := 4) (v := .agg (ints .u64 RL)) rfl rfl (by decide) (by kernel_rfl) (by kernel_rfl) (by kernel_rfl) (by kernel_rfl) (by kernel_rfl) (fun _ _ _ h => h) (Or.inl ⟨by rfl, ?_⟩) trivial hS1 ?_
      · rintro w0 ⟨-, t0, t1⟩
        exact exec_load_row 92 _ rfl gr rfl 92 _ (0, 0) _ t1.heap Tryd.underlying92 rfl HRI.out
      (try simp only [Act.put, List.setIfInBounds_toArray, List.set_cons_zero, List.set_cons_succ])
      refine anyC_one (i := 2) (by kernel_rfl) rfl (fun K' hK' => ?_)
      go_simp
      go_at_call 51
      with_reducible refine (HM.out U2.drew ((Below.refl _ U2).drew)).mono ?_
      rintro e6 w6 ⟨M, rfl, hMl, hMv, hb6⟩
      have hS6 := (show Wn .u64 w6 gv 92 V ∧ Wn .u64 w6 gr 92 RL from ⟨hS1.1.below hb6, hS1.2.below hb6⟩)
      refine hK'.out _ _ trivial (fun _ => hS6) ?_
      have HB6 : Hid (Below U2.heap.size U2 w6) := hidden (((Below.refl _ U2).drew).trans hb6)
      have HSM := hidden (fun W => sum_any V M HVL.out.len hMl.len (HVL.out.all 4611686018427387904 (by omega) (by omega)) (hMl.all 4611686018427387904 (by omega) (by omega)) W)
      have HAL := hidden (HVL.out.add hMl)
      have HAN := Is.mk (addL_num B26 V M (by rw [HVL.out.len, hMl.len]))
      rw [hMv] at HAN
      clear hK' K' hb6 hMl hMv hS1
      generalize addL V M = AL at *
      (try simp only [Act.put, List.setIfInBounds_toArray, List.set_cons_zero, List.set_cons_succ])
      refine anyC_one (i := 3) (by kernel_rfl) rfl (fun K' hK' => ?_)
      go_simp
      go_at_call 50
      with_reducible refine (HSM.out w6).mono ?_
      rintro e7 w7 ⟨rfl, hb7⟩
      have hS7 := (show Wn .u64 w7 gv 92 V ∧ Wn .u64 w7 gr 92 RL from ⟨hS6.1.below hb7, hS6.2.below hb7⟩)
      refine hK'.out _ _ trivial (fun _ => hS7) ?_
      have HB7 : Hid (Below U2.heap.size U2 w7) := hidden (HB6.out.trans (hb7.mono HB6.out.size))
      have HPR := hidden (fun W => product_any AL RL HAL.out.len HRL.out.len (HAL.out.all 268435456 (by omega) (by omega)) (HRL.out.all 67108864 (by omega) (by omega)) W)
      clear hK' K' hb7 hS6
      (try simp only [Act.put, List.setIfInBounds_toArray, List.set_cons_zero, List.set_cons_succ])
      refine anyC_one (i := 5) (by kernel_rfl) rfl (fun K' hK' => ?_)
      go_simp
      go_at_call 49
      with_reducible refine (HPR.out w7).mono ?_
      rintro e8 w8 ⟨R, rfl, hRl, ⟨t', ht'⟩, hb8⟩
      have hS8 := (show Wn .u64 w8 gv 92 V ∧ Wn .u64 w8 gr 92 RL from ⟨hS7.1.below hb8, hS7.2.below hb8⟩)
      refine hK'.out _ _ trivial (fun _ => hS8) ?_
      have HB8 : Hid (Below U2.heap.size U2 w8) := hidden (HB7.out.trans (hb8.mono HB7.out.size))
      have HIR := hidden (infoL R hRl.len)
      have HZR : Hid ((ints .u64 V).size = (ints .u64 R).size) := by show _ = _; rw [ints_size, ints_size, hRl.len, HVL.out.len]
      clear hK' K' hb8 hS7
      (try simp only [Act.put, List.setIfInBounds_toArray, List.set_cons_zero, List.set_cons_succ])
      refine anyC_one (i := 6) (by kernel_rfl) rfl (fun K' hK' => ?_)
      refine op_of_skip rfl (exec_store_row 92 _ _ rfl gv (ints .u64 R) rfl rfl 92 _ hS8.1.heap HIR.out HZR.out (onek .u64 R)) (hK'.out _ _ trivial (fun h => nomatch (h.symm.trans (by kernel_rfl) : false = true)) ?_)
      clear hK' K'
      refine anyC_done (by kernel_rfl) ?_ _
      gi_wp2
      have hgr8 := grown_of_below HB8.out none
      have hus := HB8.out.size
      have hI8 : InvP w gr gs gv RL SL kr pre w8 := HII.out.grown hgr8 (fun k e => by cases e)
      have hne1 : gr ≠ gv := by omega
      have hne2 : gs ≠ gv := by omega
      refine ⟨(KeepsOthers.of_grownBy hgr8 (fun j ob e => by cases e)).trans ?_, (KeepS.of_below (fun j hj => by omega) HB8.out).trans (KeepS.grown (fun j hj => by omega) (row := some gv) ?_ (fun k e hk => by cases e; omega)), ?_⟩
      · exact KeepsOthers.of_grownBy (grown_rowP _ gv _) (fun j ob e hob => by cases e; rw [hS8.1.heap] at hob; cases hob; rfl)
      · exact grown_rowP _ gv _
      · refine ⟨below_setRow hI8.bel hwv _, hI8.rr.rowOther _ _ hne1, hI8.ss.rowOther _ _ hne2, R, hS8.1.row R, hRl, ?_⟩
        rw [List.map_append, List.foldl_append]
        refine step_val kr _ (num B26 V) (markS x.b) (num B26 R) t t' HT.out ?_ _ rfl
        rw [ht', HAN.eq, HRV.eq, HKR.eq]
    case done =>
      rintro dd pre W hd hT hI hK
      obtain ⟨V, hV, hVl, t, ht⟩ := hI.vv
      rw [HACC.out _ hT] at ht
      have HVI := hidden (infoL V hVl.len)
      have HV := hidden hV
      have HS := hidden hI.ss
      have HK := hidden hK
      have HVL := hidden hVl
      have HT := hidden ht
      have HBL := hidden hI.bel
      have hlw := HBL.out.size
      clear hI hV hT hK hVl ht
      gi_wp2_with fail
      refine wpIn_wide.2 ?_
      refine wp_region_any (by kernel_rfl) ?_
      have HW0 : Hid (Below W.heap.size W W.drew) := (Below.refl _ W).drew
      refine any_inv (PhE W (some ⟨bk, ok, none⟩) (some ⟨bk, ok + 16, none⟩) r c n e gr gs gv dd RL SL V) ?_ 7 _ _ _ (by decide) ⟨false, false, false, false, undef, undef, undef, undef, rfl, rfl, HW0.out, fun h => (by cases h), fun h => (by cases h), fun h => (by cases h), fun h => (by cases h), fun h => (by cases h), fun h => (by cases h)⟩
      clear HSEQ HACC
      rintro l a U2 ⟨c0, c1, c2, c3, v28, v29, v30, v31, rfl, rfl, hbel, k10, k32, q28, q29, q30, q31⟩
      have HBE := hidden hbel
      have HSU := hidden (HS.out.below hbel)
      have HVU := hidden (HV.out.below hbel)
      clear hbel
      by_cases hall : c0 = true ∧ c1 = true ∧ c2 = true ∧ c3 = true
      · left
        obtain ⟨rfl, rfl, rfl, rfl⟩ := hall
        obtain rfl := q28 rfl
        obtain rfl := q30 rfl
        obtain ⟨R1, rfl, hR1, hR1v⟩ := q29 rfl
        obtain ⟨R2, rfl, hR2, hR2v⟩ := q31 rfl
        have HLO := hidden (lowest_any R2 hR2 U2)
        have HDG : Is (dig 256 16 (num B26 R2)) TG := ⟨by
          have hvb : 0 ≤ num B26 V ∧ num B26 V < 1361129467683753853853498429727072845829 := by
            obtain ⟨a, b, c, d, e, he⟩ := five V HVL.out.len
            have k0 := HVL.out.fst
            have k1 := HVL.out.rest 1 (by omega) (by omega)
            have k2 := HVL.out.rest 2 (by omega) (by omega)
            have k3 := HVL.out.rest 3 (by omega) (by omega)
            have k4 := HVL.out.rest 4 (by omega) (by omega)
            rw [he] at k0 k1 k2 k3 k4 ⊢
            simp at k0 k1 k2 k3 k4
            rw [num5]
            omega
          rw [hR2v, end_val _ AC t _ hvb.1 hvb.2 HSVR.out HT.out, HSV.eq, HTG.eq]⟩
        rw [HDG.eq] at HLO
        intro m hm
        obtain ⟨m, rfl⟩ : ∃ k, m = k + 3 := ⟨m - 3, by have : cnt #[true, true, true, true, false, false, false] = 3 := by decide
                                                       omega⟩
        clear q28 q30 q29 q31 hR1 hR1v hR2v hR2 hm
        refine any_one (i := 4) (by kernel_rfl) rfl (fun K' hK => ?_)
        refine op_of_call rfl ?_
        unfold frE
        go_simp
        go_at_call 52
        with_reducible refine (HLO.out).mono ?_
        rintro e6 w6 ⟨v, rfl, hown, hb6⟩
        refine hK.out _ _ ?_
        have HOW := hidden hown
        have HB6 := hidden (HBE.out.trans (hb6.mono HBE.out.size))
        have HLE := hidden HBE.out.size
        clear hK K' hown hb6
        (try simp only [Act.put, List.setIfInBounds_toArray, List.set_cons_zero, List.set_cons_succ])
        refine any_one (i := 5) (by kernel_rfl) rfl (fun K' hK => ?_)
        refine op_of_call rfl ?_
        go_simp
        refine hK.out _ _ ?_
        clear hK K'
        (try simp only [Act.put, List.setIfInBounds_toArray, List.set_cons_zero, List.set_cons_succ])
        refine any_one (i := 6) (by kernel_rfl) rfl (fun K' hK => ?_)
        refine op_of_call rfl ?_
        go_simp
        refine hK.out _ _ ?_
        clear hK K'
        refine any_done (by kernel_rfl) ?_ _
        have hKd : w6.heap[dd]? = some (.deferred (some [])) := by
          have hl := (Array.getElem?_eq_some_iff.1 HK.out).1
          rw [HB6.out.block _ hl]; exact HK.out
        have HKD := hidden hKd
        clear hKd
        gi_wp2
        have hbW := (HBL.out.trans (HB6.out.mono hlw)).trans (below_put (B := w.heap.size) w6 dd (.deferred none) (by omega) (by have := HB6.out.size; omega))
        refine ⟨by simp, .inl ⟨_, _, rfl, run_takeDeferred HKD.out, ?_⟩⟩
        exact ⟨_, results_tmp2 rfl _ _ _, v, rfl, (HOW.out.mono (by have := HLE.out; omega)).staysP (grown_putP _ _ _) (fun k hk cur hc => by cases hk; rw [HKD.out] at hc; cases hc), hbW⟩
      · right
        refine ⟨fun hr => ?_, fun i hi => ?_⟩
        · exfalso
          have ht := all_true (by kernel_rfl) (by rfl) hr
          exact hall ⟨ht 0, ht 1, ht 2, ht 3⟩
        · have h1 := (mem_ready.1 hi).1
          have hlt : i < 7 := ready_lt hi
          have : i = 0 ∨ i = 1 ∨ i = 2 ∨ i = 3 ∨ i = 4 ∨ i = 5 ∨ i = 6 := by omega
          rcases this with rfl | rfl | rfl | rfl | rfl | rfl | rfl
          · refine inv_op rfl (fun K' hK => ?_)
            refine op_of_exec rfl (exec_load_row 92 _ rfl gv rfl 92 _ (0, 0) _ HVU.out.heap Tryd.underlying92 rfl HVI.out) (hK.out _ _ ?_)
            exact ⟨true, c1, c2, c3, _, v29, v30, v31, rfl, rfl, HBE.out, fun _ => rfl, k32, fun _ => rfl, q29, q30, q31⟩
          · have d0 : c0 = true := ready_dep hi rfl 0 (by kernel_rfl)
            obtain rfl := q28 d0
            refine inv_op rfl (fun K' hK => ?_)
            refine op_of_call rfl ?_
            unfold frE
            go_simp
            go_at_call 53
            with_reducible refine (reduced_any V HVL.out U2).mono ?_
            rintro e4 w4 ⟨R, rfl, hl, hv, hb4⟩
            exact hK.out _ _ ⟨c0, true, c2, c3, _, _, v30, v31, rfl, rfl, HBE.out.trans (hb4.mono HBE.out.size), fun _ => d0, fun h => ⟨rfl, (k32 h).2⟩, q28, fun _ => ⟨R, rfl, hl, hv⟩, q30, q31⟩
          · refine inv_op rfl (fun K' hK => ?_)
            refine op_of_exec rfl (exec_load_row 92 _ rfl gs rfl 92 _ (0, 0) _ HSU.out.heap Tryd.underlying92 rfl HSI.out) (hK.out _ _ ?_)
            exact ⟨c0, c1, true, c3, v28, v29, _, v31, rfl, rfl, HBE.out, k10, fun h => ⟨(k32 h).1, rfl⟩, q28, q29, fun _ => rfl, q31⟩
          · have d1 : c1 = true := ready_dep hi rfl 1 (by kernel_rfl)
            have d2 : c2 = true := ready_dep hi rfl 2 (by kernel_rfl)
            obtain ⟨R1, rfl, hR1, hR1v⟩ := q29 d1
            obtain rfl := q30 d2
            refine inv_op rfl (fun K' hK => ?_)
            refine op_of_call rfl ?_
            unfold frE
            go_simp
            go_at_call 50
            with_reducible refine (sum_any R1 SL hR1.len HSL.out.len (hR1.all 4611686018427387904 (by omega) (by omega)) (HSL.out.all 4611686018427387904 (by omega) (by omega)) U2).mono ?_
            rintro e4 w4 ⟨rfl, hb4⟩
            refine hK.out _ _ ⟨c0, c1, c2, true, _, _, _, _, rfl, rfl, HBE.out.trans (hb4.mono HBE.out.size), k10, fun _ => ⟨d1, d2⟩, fun _ => rfl, fun _ => ⟨R1, rfl, hR1, hR1v⟩, fun _ => rfl, fun _ => ⟨_, rfl, ?_, ?_⟩⟩
            · have ha := hR1.add HSL.out
              have hal := ha.all 268435456 (by omega) (by omega)
              have hll := ha.len
              obtain ⟨a, b, c, d, e, he⟩ := five _ hll
              rw [he] at hal ⊢
              exact Lm.of _ _ _ _ _ _ _ (hal a (by simp)) (hal b (by simp)) (hal c (by simp)) (hal d (by simp)) (hal e (by simp))
            · rw [addL_num _ _ _ (by rw [hR1.len, HSL.out.len]), hR1v]
          · have d3 : c3 = true := ready_dep hi rfl 3 (by kernel_rfl)
            exact absurd ⟨k10 (k32 d3).1, (k32 d3).1, (k32 d3).2, d3⟩ hall
          · exact nomatch (ready_dep hi rfl 4 (by kernel_rfl) : false = true)
          · exact nomatch (ready_dep hi rfl 5 (by kernel_rfl) : false = true)
  · right
    refine ⟨fun hr => ?_, fun i hi => ?_⟩
    · exfalso
      have ht := all_true (by kernel_rfl) (by rfl) hr
      exact hall ⟨ht 0, ht 1, ht 2, ht 3, ht 4, ht 5, ht 6, ht 7⟩
    · have h1 := (mem_ready.1 hi).1
      have hlt : i < 10 := ready_lt hi
      have : i = 0 ∨ i = 1 ∨ i = 2 ∨ i = 3 ∨ i = 4 ∨ i = 5 ∨ i = 6 ∨ i = 7 ∨ i = 8 ∨ i = 9 := by omega
      rcases this with rfl | rfl | rfl | rfl | rfl | rfl | rfl | rfl | rfl | rfl
      · refine inv_op rfl (fun K' hK => ?_)
        unfold frP
        go_simp
        exact hK.out _ _ ⟨true, b1, b2, b3, b4, b5, b6, b7, _, v14, v15, v16, v17, v18, v6, v7, rfl, rfl, HBEL.out, h54, h43, fun _ => rfl, q14, q16, q17, q15, q18, q6, q7, q67⟩
      · have d0 : b0 = true := ready_dep hi rfl 0 (by kernel_rfl)
        obtain rfl := q13 d0
        refine inv_op rfl (fun K' hK => ?_)
        unfold frP
        go_simp
        exact hK.out _ _ ⟨b0, true, b2, b3, b4, b5, b6, b7, _, _, v15, v16, v17, v18, v6, v7, rfl, rfl, HBEL.out, h54, h43, q13, fun _ => rfl, q16, q17, q15, q18, q6, q7, q67⟩
      · have d1 : b1 = true := ready_dep hi rfl 1 (by kernel_rfl)
        obtain rfl := q14 d1
        refine inv_op rfl (fun K' hK => ?_)
        unfold frP
        go_simp
        go_at_call 47
        refine (HF.out U HBEL.out).mono ?_
        rintro e4 w4 ⟨R, rfl, hl, hv, hb4⟩
        refine hK.out _ _ ⟨b0, b1, true, b3, b4, b5, b6, b7, v13, _, _, v16, v17, v18, v6, v7, rfl, rfl, HBEL.out.trans (hb4.mono HBEL.out.size), h54, h43, q13, q14, q16, q17, fun _ => ⟨R, rfl, hl, hv⟩, q18, fun h => ?_, fun h => ?_, q67⟩
        · obtain ⟨g, hg⟩ := q6 h; exact ⟨g, hg.below hb4⟩
        · obtain ⟨g, hg⟩ := q7 h; exact ⟨g, hg.below hb4⟩
      · refine inv_op rfl (fun K' hK => ?_)
        unfold frP
        go_simp
        exact hK.out _ _ ⟨b0, b1, b2, true, b4, b5, b6, b7, v13, v14, v15, _, v17, v18, v6, v7, rfl, rfl, HBEL.out, h54, fun _ => rfl, q13, q14, fun _ => rfl, q17, q15, q18, q6, q7, q67⟩
      · have d0 : b3 = true := ready_dep hi rfl 3 (by kernel_rfl)
        obtain rfl := q16 d0
        refine inv_op rfl (fun K' hK => ?_)
        unfold frP
        go_simp
        exact hK.out _ _ ⟨b0, b1, b2, b3, true, b5, b6, b7, v13, v14, v15, _, _, v18, v6, v7, rfl, rfl, HBEL.out, fun _ => rfl, fun _ => d0, q13, q14, q16, fun _ => rfl, q15, q18, q6, q7, q67⟩
      · have d1 : b4 = true := ready_dep hi rfl 4 (by kernel_rfl)
        obtain rfl := q17 d1
        refine inv_op rfl (fun K' hK => ?_)
        unfold frP
        go_simp
        go_at_call 48
        refine (HG.out U HBEL.out).mono ?_
        rintro e4 w4 ⟨R, rfl, hl, hv, hb4⟩
        refine hK.out _ _ ⟨b0, b1, b2, b3, b4, true, b6, b7, v13, v14, v15, _, _, _, v6, v7, rfl, rfl, HBEL.out.trans (hb4.mono HBEL.out.size), fun _ => d1, h43, q13, q14, fun _ => rfl, q17, q15, fun _ => ⟨R, rfl, hl, hv⟩, fun h => ?_, fun h => ?_, q67⟩
        · obtain ⟨g, hg⟩ := q6 h; exact ⟨g, hg.below hb4⟩
        · obtain ⟨g, hg⟩ := q7 h; exact ⟨g, hg.below hb4⟩
      · refine inv_op rfl (fun K' hK => ?_)
        unfold frP
        go_simp
        have hba : Below U.heap.size U (U.alloc (.cells #[.int .u64 0, .int .u64 0, .int .u64 0, .int .u64 0, .int .u64 0] 92)) := (Below.refl _ U).alloc (Nat.le_refl _) _
        refine hK.out _ _ ⟨b0, b1, b2, b3, b4, b5, true, b7, v13, v14, v15, v16, v17, v18, _, v7, rfl, rfl, HBEL.out.trans (hba.mono HBEL.out.size), h54, h43, q13, q14, q16, q17, q15, q18, fun h => ?_, fun h => ?_, fun _ h g g' hg hg' => ?_⟩
        · exact ⟨_, rfl, HBEL.out.size, Wn.new .u64 U 92 (List.replicate 5 0) _ rfl⟩
        · obtain ⟨g, hg⟩ := q7 h; exact ⟨g, hg.below hba⟩
        · obtain ⟨g2, e2, _, hg2⟩ := q7 h
          rw [e2] at hg'
          cases hg'
          cases hg
          have := hg2.lt
          omega
      · refine inv_op rfl (fun K' hK => ?_)
        unfold frP
        go_simp
        have hba : Below U.heap.size U (U.alloc (.cells #[.int .u64 0, .int .u64 0, .int .u64 0, .int .u64 0, .int .u64 0] 92)) := (Below.refl _ U).alloc (Nat.le_refl _) _
        refine hK.out _ _ ⟨b0, b1, b2, b3, b4, b5, b6, true, v13, v14, v15, v16, v17, v18, v6, _, rfl, rfl, HBEL.out.trans (hba.mono HBEL.out.size), h54, h43, q13, q14, q16, q17, q15, q18, fun h => ?_, fun h => ?_, fun h _ g g' hg hg' => ?_⟩
        · obtain ⟨g, hg⟩ := q6 h; exact ⟨g, hg.below hba⟩
        · exact ⟨_, rfl, HBEL.out.size, Wn.new .u64 U 92 (List.replicate 5 0) _ rfl⟩
        · obtain ⟨g2, e2, _, hg2⟩ := q6 h
          rw [e2] at hg
          cases hg'
          cases hg
          have := hg2.lt
          omega
      · exact absurd ⟨ready_dep hi rfl 0 (by kernel_rfl), ready_dep hi rfl 1 (by kernel_rfl), ready_dep hi rfl 2 (by kernel_rfl), h43 (h54 (ready_dep hi rfl 5 (by kernel_rfl))), h54 (ready_dep hi rfl 5 (by kernel_rfl)), ready_dep hi rfl 5 (by kernel_rfl), ready_dep hi rfl 6 (by kernel_rfl), ready_dep hi rfl 7 (by kernel_rfl)⟩ hall
      · exact nomatch (ready_dep hi rfl 8 (by kernel_rfl) : false = true)
end Go.Proofs.YtpocehpejbnemaaDoor
