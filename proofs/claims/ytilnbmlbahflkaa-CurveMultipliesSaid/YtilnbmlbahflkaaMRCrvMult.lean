/-
  The document's Multiply.
-/
import Derived.Test.YtilnbmlbahflkaaMRCrvRow
import Derived.Test.YtilnbmlbahflkaaMCrvSca
import Derived.Test.YtilnbmlbahflkaaMZ0
import Derived.Deep.CutRange
import Derived.Deep.CutBlock
namespace Go.Proofs.Ytilnbmlbahflkaa
open Go.RowKit
set_option linter.unusedVariables false

def stR7 (k : Nat) (b : List Bool) : Array Bool := #[true, true, true, true, b.getD 0 false, b.getD 1 false, b.getD 2 false, b.getD 3 false, false, false, false, false]
def stR15 (k : Nat) (b : List Bool) : Array Bool := #[true, true, decide (0 < k), true, true, decide (1 < k), true, true, decide (2 < k), true, true, decide (3 < k), b.getD 0 false, b.getD 1 false, b.getD 2 false, b.getD 3 false, false, false, false, false]
def stR18 (k : Nat) (b : List Bool) : Array Bool := #[true, true, decide (0 < k), true, true, decide (1 < k), b.getD 0 false, b.getD 1 false, false, false]

def stR24 (k : Nat) (b : List Bool) : Array Bool := #[true, true, decide (0 < k), decide (1 < k), decide (2 < k), b.getD 0 false, false]
/-- The digits of a number, as a value. -/
def ResO (V : Int) (v : Value) : Prop := ∃ L, v = .agg (ints .u64 L) ∧ Ld 65536 L ∧ num B16 L = V
/-- A digit of 16 bits is two bytes. -/
theorem pair_step (V : Int) (R : List Int) (hR : Ld 65536 R) (hn : num B16 R = V) (j : Nat) (hj : j < 16) :
    dig 256 (2 * j) V ++ [R.getD j 0 % 256, R.getD j 0 / 256] = dig 256 (2 * (j + 1)) V ∧ 0 ≤ R.getD j 0 ∧ R.getD j 0 < 65536 := by
  have hd := dig_num B16 (by decide) R hR.rng
  rw [hR.len, hn] at hd
  have hg := dig_get B16 (by decide) 16 V j hj
  rw [hd] at hg
  have hr := hR.get j hj
  have e1 : dig 256 (2 * (j + 1)) V = (dig 256 (2 * j) V ++ [V / 256 ^ (2 * j) % 256]) ++ [V / 256 ^ (2 * j + 1) % 256] := by
    rw [show 2 * (j + 1) = 2 * j + 1 + 1 by omega, dig_succ 256 (by decide), dig_succ 256 (by decide)]
  have e2 : (256 : Int) ^ (2 * j) = B16 ^ j := by rw [Int.pow_mul]; rfl
  rw [e1, Int.pow_succ, ← Int.ediv_ediv_of_nonneg (Int.le_of_lt (pow_pos' (by decide) _)), e2, List.append_assoc]
  unfold B16 at hg ⊢
  generalize V / 65536 ^ j = q at *
  refine ⟨?_, hr⟩
  rw [hg]
  have h1 : q % 65536 % 256 = q % 256 := by omega
  have h2 : q % 65536 / 256 = q / 256 % 256 := by omega
  rw [h1, h2]
  rfl
theorem Own.typedM {w : World} {base : Nat} {e : TypeId} {v : Value} {xs : List Int} (h : Own w base e v xs) (k : Nat) (hk : v.ownBlock = some k) : ∃ cur, w.heap[k]? = some (.cells cur e (0, 0)) := by
  rcases h.2 with ⟨rfl, _⟩ | ⟨g, cap, cur, rfl, _, hh, _⟩
  · simp [Value.ownBlock] at hk
  · simp [Value.ownBlock] at hk
    subst hk
    exact ⟨_, hh⟩
theorem Own.offM {w : World} {base g : Nat} {v : Value} {xs L : List Int} (h : Own w base 5 v xs) (hw : Wn .u64 w g 54 L) : some g ≠ v.ownBlock := fun e => by
  obtain ⟨cur, hc⟩ := h.typedM g e.symm
  rw [hw.heap] at hc
  simp at hc
theorem fc_exec {P : Program} {o : Oper} {a : Act} {w w' : World} {K : Act → World → Prop} {Q : Exit → Act → World → Prop} {v : Value} (he : (execOp a.eval o).run P w = .ok (.value v) w') (h : K (a.put o.dst v) w') : o.wp P a w K Q := by
  unfold Oper.wp
  rw [he]
  exact h
theorem fc_call {P : Program} {o : Oper} {a : Act} {w : World} {K : Act → World → Prop} {Q : Exit → Act → World → Prop} {f : FuncId} {args : Array Value} {R : Value → World → Prop} (he : (execOp a.eval o).run P w = .ok (.enter f args) w)
    (hc : Calls P f args w fun e w' => ∃ v, e = .returned v ∧ R v w') (h : ∀ v w', R v w' → K (a.put o.dst v) w') : o.wp P a w K Q := by
  unfold Oper.wp
  rw [he, Oper.upon_enter]
  refine hc.mono ?_
  rintro e w' ⟨v, rfl, hv⟩
  exact h v w' hv

set_option maxHeartbeats 6400000 in
set_option maxRecDepth 100000 in
theorem rmult_any (p q : Option Addr) (c d : Nat) (s t : List Int) (w : World) (hs : Byt w p 32 c s) (ht : Byt w q 32 d t) :
    Calls Try.prog 8 #[.slice p 32 c, .slice q 32 d] w fun e w' => ∃ p' c', e = .returned (.tuple #[.slice p' 32 c', .int .i64 0]) ∧ Bod w' w.heap.size p' 32 c' (mulB s t) ∧ Below w.heap.size w w' := by
  obtain ⟨i0, hi, hz0, hz1, hz2⟩ := info_parts Try.infoByte
  have HDE := hidden (fun W (hW : Below w.heap.size w W) => rdecode_any q d t W (ht.below hW))
  have hu : toK (num 256 t % 2 ^ 255) = uK t := rfl
  rw [hu] at HDE
  have HS := hidden hs
  have HSL := Is.mk hs.len
  have HKL : Is (clampK s).length 32 := ⟨by rw [clampK_len, hs.len]⟩
  have HKR := hidden (clampK_rng s hs.rng hs.len)
  have HCL := Is.mk (clamp_ref s hs.len hs.rng)
  have HMB : Is (dig 256 32 ((endK (uK t) (clampK s)).val : Int)) (mulB s t) := ⟨rfl⟩
  rw [← HMB.eq]
  generalize uK t = u at *
  generalize clampK s = k at *
  clear hs ht hu HMB
  obtain ⟨V, hV⟩ : ∃ V : Int, ((endK u k).val : Int) = V := ⟨_, rfl⟩
  rw [hV]
  have HVE := Is.mk hV
  clear hV
  go_enter Try.func8, Try.ntmps8
  go_upto_region 3 with fail
  go_upto_region 4 with (first
    | (at_builtin; refine wpList_append_byt _ rfl _ _ 22 rfl w.heap.size 5 i0 (.int .u8 0) Try.underlying22 hi hz0 hz1 hz2 rfl _ _ rfl (Own.nil _ _ _) _ _ _ _ _ rfl HS.out rfl (by simp) (Nat.le_refl _) ?_; intro v1 w1 ho1 hg1; have HO1 := hidden ho1; have HB1 := hidden ((Below.refl w.heap.size w).grown hg1 (Nat.le_refl _) (fun k hk => by cases hk)); clear ho1 hg1)
    | fail)
  rw [List.nil_append] at HO1
  obtain ⟨gk, ck, rfl, hgk0, hgk1, hcb, hfb⟩ := HO1.out.at_ HSL.eq (by omega)
  have HGK := hidden hgk0
  obtain ⟨a0, ha0⟩ : ∃ x, s.getD 0 0 = x := ⟨_, rfl⟩
  obtain ⟨a31, ha31⟩ : ∃ x, s.getD 31 0 = x := ⟨_, rfl⟩
  have c0 := hcb 0 (by omega)
  have c31 := hcb 31 (by omega)
  have f0 := hfb 0
  have f31 := hfb 31
  rw [ha0] at c0
  rw [ha31] at c31
  have hcl := HCL.eq
  rw [ha0, ha31] at hcl
  generalize hX : bits .and .u8 a0 248 = X at *
  generalize hY1 : bits .and .u8 a31 127 = Y1 at *
  generalize hY : bits .or .u8 Y1 64 = Y at *
  have ho2 := HO1.out.set HSL.eq 0 X
  have ho3 := ho2.set (by rw [List.length_set]; exact HSL.eq) 31 Y
  rw [hcl] at ho3
  have HO3 := hidden ho3
  clear hcb hfb ha0 ha31
  have c31' : (w1.setCell ⟨gk, 0, none⟩ (.int .u8 X)).cell? ⟨gk, 31, none⟩ = some (.int .u8 a31) := by go_simp
  have f31' : (w1.setCell ⟨gk, 0, none⟩ (.int .u8 X)).frozen? ⟨gk, 31, none⟩ = false := by go_simp
  have HB3 := hidden ((HB1.out.setCell (p := ⟨gk, 0, none⟩) HGK.out (.int .u8 X)).setCell (p := ⟨gk, 31, none⟩) HGK.out (.int .u8 Y))
  clear ho2 ho3 hcl HO1 HB1 HS hi hz0 hz1 hz2 HCL
  go_upto_region 5 with fail
  clear c0 f0 c31 f31 hX
  go_upto_region 6 with fail
  clear c31' f31' hY hY1
  generalize World.setCell (World.setCell w1 _ _) _ _ = w3 at *
  obtain ⟨gk', ck', ev, -, hgl, hcb, -⟩ := HO3.out.at_ HKL.eq (by omega)
  obtain ⟨rfl, rfl⟩ : gk = gk' ∧ ck = ck' := by simp at ev; omega
  obtain ⟨ok, hok⟩ : ∃ o, w3.heap[gk]? = some o := ⟨_, Array.getElem?_eq_getElem hgl⟩
  have HKC := hidden (fun (W : World) (hW : W.heap[gk]? = some ok) j (hj : j < 32) => (cell_blk hok hW j).trans (hcb j hj))
  have HOK3 := hidden hok
  clear hcb ev hok HO3
  go_upto_region 7 with (first
    | (go_at_call 22; (with_reducible refine (HDE.out w3 HB3.out).mono ?_); rintro e4 w4 ⟨LU, rfl, hlu, hfu, hb4⟩; have HB4 := hidden (HB3.out.trans (hb4.mono HB3.out.size)); have HOK4 : Hid (w4.heap[gk]? = some ok) := (by rw [hb4.block gk hgl]; exact HOK3); have HLU := hidden hlu; have HFU := Is.mk hfu; have HIU := hidden (infoD LU hlu.len); have HZU := hidden (zero16 LU hlu.len); clear hb4 hlu hfu)
    | (refine wpList_store_row rfl 54 _ _ rfl w4.heap.size (ints .u64 LU) rfl rfl 54 _ (heap_alloc_new w4 (.cells (ints .u64 (List.replicate 16 0)) 54)) HIU.out HZU.out (onek .u64 LU) ?_)
    | fail)
  generalize hw5 : World.setRow _ w4.heap.size _ = w5
  obtain ⟨n, hn⟩ : ∃ n, w.heap.size = n := ⟨_, rfl⟩
  obtain ⟨m, hm⟩ : ∃ m, w4.heap.size = m := ⟨_, rfl⟩
  have hnm : w.heap.size ≤ w4.heap.size := HB4.out.size
  have hkm : gk < m := by rw [← hm]; exact heap_lt HOK4.out
  have h7 : Wn .u64 w5 m 54 LU := by
    rw [← hw5, ← hm]
    exact ⟨setRow_heap _ _ _ _ _ _ (heap_alloc_new w4 (.cells (ints .u64 (List.replicate 16 0)) 54))⟩
  have hb5 : Below n w w5 := by
    rw [← hw5, ← hn]
    exact below_setRow (HB4.out.alloc hnm _) hnm _
  have hk5 : w5.heap[gk]? = some ok := by
    rw [← hw5, setRow_other _ _ _ _ (by omega), Below.heap_alloc _ _ _ (heap_lt HOK4.out)]
    exact HOK4.out
  simp only [hm]
  rw [hn, hm] at hnm
  rw [hn] at HGK
  have HNM := hidden hnm
  have HKM := hidden hkm
  have H7 := hidden h7
  have HB5 := hidden hb5
  have HK5 := hidden hk5
  have HWS := Is.mk hn
  clear hw5 hm hnm hkm h7 hb5 hk5 HDE HB3 HB4 HOK3 HOK4 hgl hn
  have HBD := hidden ((Below.refl w5.heap.size w5).drew)
  refine region_C 8 (fun U => Below w5.heap.size w5 U) (fun _ => True) (by kernel_rfl) HBD.out trivial (fun hS0 _ => ?_)
  refine anyC_take (i := 0) (v := .agg (ints .u64 [1, 0, 0, 0, 0, 0, 0, 0, 0, 0, 0, 0, 0, 0, 0, 0])) rfl rfl (by decide) (by kernel_rfl) (by kernel_rfl) (by kernel_rfl) (fun _ _ _ h => h) (Or.inl ⟨by rfl, ?_⟩) hS0 (fun _ => trivial) ?_
  · intro w0 _; kernel_rfl
  refine anyC_take (i := 1) (v := .agg (ints .u64 (List.replicate 16 0))) rfl rfl (by decide) (by kernel_rfl) (by kernel_rfl) (by kernel_rfl) (fun _ _ _ h => h) (Or.inl ⟨by rfl, ?_⟩) hS0 (fun _ => trivial) ?_
  · intro w0 _; kernel_rfl
  refine anyC_take (i := 2) (v := .agg (ints .u64 LU)) rfl rfl (by decide) (by kernel_rfl) (by kernel_rfl) (by kernel_rfl) (fun _ _ _ h => h) (Or.inl ⟨by rfl, ?_⟩) hS0 (fun _ => trivial) ?_
  · rintro w0 hb0
    exact fl_load 54 _ rfl m 0 (by kernel_rfl) 54 _ _ (0, 0) _ (H7.out.below hb0).heap Try.underlying54 rfl HIU.out (fun j v h => part_all _ _ j v h)
  refine anyC_take (i := 3) (v := .agg (ints .u64 [1, 0, 0, 0, 0, 0, 0, 0, 0, 0, 0, 0, 0, 0, 0, 0])) rfl rfl (by decide) (by kernel_rfl) (by kernel_rfl) (by kernel_rfl) (fun _ _ _ h => h) (Or.inl ⟨by rfl, ?_⟩) hS0 (fun _ => trivial) ?_
  · intro w0 _; kernel_rfl
  generalize hl0 : Array.setIfInBounds (α := Bool) _ _ _ = l0
  generalize hA0 : Act.put _ _ _ = A0
  refine anyC_run w5 .u64 54 (List.replicate 16 0) 0 4 stR7 (fun v p => ((((A0.put (some 8) (p 0)).put (some 9) (p 1)).put (some 10) (p 2)).put (some 11) (p 3))) (fun k x =>  True) [] [4, 5, 6, 7] (by kernel_rfl) (fun U hb => ⟨hb, trivial⟩) ?_ ?_ ?_ l0 A0 (fun _ => undef) (fun _ => undef) (by rw [← hl0]; kernel_rfl) (by subst hA0; kernel_rfl) w5.drew HBD.out _ (by subst hl0; decide +kernel)
  · intro k v p U hk; exact absurd hk (Nat.not_lt_zero _)
  · intro j v p U hj Φ h
    have h3 : j = 0 ∨ j = 1 ∨ j = 2 ∨ j = 3 := by omega
    rcases h3 with rfl | rfl | rfl | rfl
    · refine wpOp_step rfl (fun K' hK => ?_)
      refine fl_exec rfl (v := .pointer (some ⟨U.heap.size, 0, none⟩)) (w' := U.alloc (.cells (ints .u64 (List.replicate 16 0)) 54)) (by kernel_rfl) (hK _ _ ?_)
      have e2 : (((((A0.put (some 8) (p 0)).put (some 9) (p 1)).put (some 10) (p 2)).put (some 11) (p 3)).put (some 8) (.pointer (some ⟨U.heap.size, 0, none⟩))) = ((((A0.put (some 8) (.pointer (some ⟨U.heap.size, 0, none⟩))).put (some 9) (p 1)).put (some 10) (p 2)).put (some 11) (p 3)) := by subst hA0; kernel_rfl
      exact (congrArg (fun a => Φ a _) e2).mpr h
    · refine wpOp_step rfl (fun K' hK => ?_)
      refine fl_exec rfl (v := .pointer (some ⟨U.heap.size, 0, none⟩)) (w' := U.alloc (.cells (ints .u64 (List.replicate 16 0)) 54)) (by kernel_rfl) (hK _ _ ?_)
      have e2 : (((((A0.put (some 8) (p 0)).put (some 9) (p 1)).put (some 10) (p 2)).put (some 11) (p 3)).put (some 9) (.pointer (some ⟨U.heap.size, 0, none⟩))) = ((((A0.put (some 8) (p 0)).put (some 9) (.pointer (some ⟨U.heap.size, 0, none⟩))).put (some 10) (p 2)).put (some 11) (p 3)) := by subst hA0; kernel_rfl
      exact (congrArg (fun a => Φ a _) e2).mpr h
    · refine wpOp_step rfl (fun K' hK => ?_)
      refine fl_exec rfl (v := .pointer (some ⟨U.heap.size, 0, none⟩)) (w' := U.alloc (.cells (ints .u64 (List.replicate 16 0)) 54)) (by kernel_rfl) (hK _ _ ?_)
      have e2 : (((((A0.put (some 8) (p 0)).put (some 9) (p 1)).put (some 10) (p 2)).put (some 11) (p 3)).put (some 10) (.pointer (some ⟨U.heap.size, 0, none⟩))) = ((((A0.put (some 8) (p 0)).put (some 9) (p 1)).put (some 10) (.pointer (some ⟨U.heap.size, 0, none⟩))).put (some 11) (p 3)) := by subst hA0; kernel_rfl
      exact (congrArg (fun a => Φ a _) e2).mpr h
    · refine wpOp_step rfl (fun K' hK => ?_)
      refine fl_exec rfl (v := .pointer (some ⟨U.heap.size, 0, none⟩)) (w' := U.alloc (.cells (ints .u64 (List.replicate 16 0)) 54)) (by kernel_rfl) (hK _ _ ?_)
      have e2 : (((((A0.put (some 8) (p 0)).put (some 9) (p 1)).put (some 10) (p 2)).put (some 11) (p 3)).put (some 11) (.pointer (some ⟨U.heap.size, 0, none⟩))) = ((((A0.put (some 8) (p 0)).put (some 9) (p 1)).put (some 10) (p 2)).put (some 11) (.pointer (some ⟨U.heap.size, 0, none⟩))) := by subst hA0; kernel_rfl
      exact (congrArg (fun a => Φ a _) e2).mpr h
  intro v pp U hr hb hp hne n0 hn0
  obtain ⟨g8, d0, hg0, hz0⟩ := hp 0 (by decide)
  have HZ0 := hidden hz0
  have HG0 := hidden hg0
  obtain ⟨g9, d1, hg1, hz1⟩ := hp 1 (by decide)
  have HZ1 := hidden hz1
  have HG1 := hidden hg1
  obtain ⟨g10, d2, hg2, hz2⟩ := hp 2 (by decide)
  have HZ2 := hidden hz2
  have HG2 := hidden hg2
  obtain ⟨g11, d3, hg3, hz3⟩ := hp 3 (by decide)
  have HZ3 := hidden hz3
  have HG3 := hidden hg3
  have hne01 : g8 ≠ g9 := fun e => hne 0 1 (by decide) (by decide) (by decide) (by rw [d0, d1, e])
  have hne02 : g8 ≠ g10 := fun e => hne 0 2 (by decide) (by decide) (by decide) (by rw [d0, d2, e])
  have hne12 : g9 ≠ g10 := fun e => hne 1 2 (by decide) (by decide) (by decide) (by rw [d1, d2, e])
  have hne03 : g8 ≠ g11 := fun e => hne 0 3 (by decide) (by decide) (by decide) (by rw [d0, d3, e])
  have hne13 : g9 ≠ g11 := fun e => hne 1 3 (by decide) (by decide) (by decide) (by rw [d1, d3, e])
  have hne23 : g10 ≠ g11 := fun e => hne 2 3 (by decide) (by decide) (by decide) (by rw [d2, d3, e])
  obtain ⟨n0, rfl⟩ : ∃ m, n0 = m + 4 := ⟨n0 - 4, by have : cnt (stR7 0 (bitsOf 4 fun _ => true)) = 4 := (by decide +kernel); omega⟩
  simp only [d0, d1, d2, d3]
  clear hr hp hne hn0 d0 hz0 hg0 d1 hz1 hg1 d2 hz2 hg2 d3 hz3 hg3
  have HB0 := hidden hb
  clear hb hS0
  refine anyC_one (i := 8) (by kernel_rfl) rfl (fun K' hK => ?_)
  with_reducible refine fl_skip (w' := U.setRow g8 (ints .u64 [1, 0, 0, 0, 0, 0, 0, 0, 0, 0, 0, 0, 0, 0, 0, 0])) ?_ ?_ ?_
  · rfl
  · exact fl_store 54 _ _ rfl g8 0 (ints .u64 [1, 0, 0, 0, 0, 0, 0, 0, 0, 0, 0, 0, 0, 0, 0, 0]) (ints .u64 [1, 0, 0, 0, 0, 0, 0, 0, 0, 0, 0, 0, 0, 0, 0, 0]) (by subst hA0; kernel_rfl) (by subst hA0; kernel_rfl) 54 _ HZ0.out.heap (infoD _ one16.len) (by first | (rw [ints_size, ints_size]; decide) | (rw [ints_size]; decide)) (onek .u64 [1, 0, 0, 0, 0, 0, 0, 0, 0, 0, 0, 0, 0, 0, 0, 0]) (patch_all _ _ _ (by rfl))
  refine hK.out _ _ (below_setRow HB0.out HG0.out _) (fun _ => trivial) ?_
  clear hK K'
  replace HB0 := hidden (below_setRow HB0.out HG0.out (ints .u64 [1, 0, 0, 0, 0, 0, 0, 0, 0, 0, 0, 0, 0, 0, 0, 0]))
  have HN0 := hidden (HZ0.out.row [1, 0, 0, 0, 0, 0, 0, 0, 0, 0, 0, 0, 0, 0, 0, 0])
  replace HZ1 := hidden (HZ1.out.rowOther g8 (ints .u64 [1, 0, 0, 0, 0, 0, 0, 0, 0, 0, 0, 0, 0, 0, 0, 0]) (Ne.symm hne01))
  replace HZ2 := hidden (HZ2.out.rowOther g8 (ints .u64 [1, 0, 0, 0, 0, 0, 0, 0, 0, 0, 0, 0, 0, 0, 0, 0]) (Ne.symm hne02))
  replace HZ3 := hidden (HZ3.out.rowOther g8 (ints .u64 [1, 0, 0, 0, 0, 0, 0, 0, 0, 0, 0, 0, 0, 0, 0, 0]) (Ne.symm hne03))
  generalize World.setRow U _ _ = U7_1 at *
  refine anyC_one (i := 9) (by kernel_rfl) rfl (fun K' hK => ?_)
  with_reducible refine fl_skip (w' := U7_1.setRow g9 (ints .u64 (List.replicate 16 0))) ?_ ?_ ?_
  · rfl
  · exact fl_store 54 _ _ rfl g9 0 (ints .u64 (List.replicate 16 0)) (ints .u64 (List.replicate 16 0)) (by subst hA0; kernel_rfl) (by subst hA0; kernel_rfl) 54 _ HZ1.out.heap (infoD _ null16.len) (by first | (rw [ints_size, ints_size]; decide) | (rw [ints_size]; decide)) (onek .u64 (List.replicate 16 0)) (patch_all _ _ _ (by rfl))
  refine hK.out _ _ (below_setRow HB0.out HG1.out _) (fun _ => trivial) ?_
  clear hK K'
  replace HB0 := hidden (below_setRow HB0.out HG1.out (ints .u64 (List.replicate 16 0)))
  replace HN0 := hidden (HN0.out.rowOther g9 (ints .u64 (List.replicate 16 0)) hne01)
  have HN1 := hidden (HZ1.out.row (List.replicate 16 0))
  replace HZ2 := hidden (HZ2.out.rowOther g9 (ints .u64 (List.replicate 16 0)) (Ne.symm hne12))
  replace HZ3 := hidden (HZ3.out.rowOther g9 (ints .u64 (List.replicate 16 0)) (Ne.symm hne13))
  generalize World.setRow U7_1 _ _ = U7_2 at *
  refine anyC_one (i := 10) (by kernel_rfl) rfl (fun K' hK => ?_)
  with_reducible refine fl_skip (w' := U7_2.setRow g10 (ints .u64 LU)) ?_ ?_ ?_
  · rfl
  · exact fl_store 54 _ _ rfl g10 0 (ints .u64 LU) (ints .u64 LU) (by subst hA0; kernel_rfl) (by subst hA0; kernel_rfl) 54 _ HZ2.out.heap HIU.out (by first | (rw [ints_size, ints_size, HLU.out.len]; decide) | (rw [ints_size]; decide)) (onek .u64 LU) (patch_all _ _ _ (by rw [HLU.out.len]; rfl))
  refine hK.out _ _ (below_setRow HB0.out HG2.out _) (fun _ => trivial) ?_
  clear hK K'
  replace HB0 := hidden (below_setRow HB0.out HG2.out (ints .u64 LU))
  replace HN0 := hidden (HN0.out.rowOther g10 (ints .u64 LU) hne02)
  replace HN1 := hidden (HN1.out.rowOther g10 (ints .u64 LU) hne12)
  have HN2 := hidden (HZ2.out.row LU)
  replace HZ3 := hidden (HZ3.out.rowOther g10 (ints .u64 LU) (Ne.symm hne23))
  generalize World.setRow U7_2 _ _ = U7_3 at *
  refine anyC_one (i := 11) (by kernel_rfl) rfl (fun K' hK => ?_)
  with_reducible refine fl_skip (w' := U7_3.setRow g11 (ints .u64 [1, 0, 0, 0, 0, 0, 0, 0, 0, 0, 0, 0, 0, 0, 0, 0])) ?_ ?_ ?_
  · rfl
  · exact fl_store 54 _ _ rfl g11 0 (ints .u64 [1, 0, 0, 0, 0, 0, 0, 0, 0, 0, 0, 0, 0, 0, 0, 0]) (ints .u64 [1, 0, 0, 0, 0, 0, 0, 0, 0, 0, 0, 0, 0, 0, 0, 0]) (by subst hA0; kernel_rfl) (by subst hA0; kernel_rfl) 54 _ HZ3.out.heap (infoD _ one16.len) (by first | (rw [ints_size, ints_size]; decide) | (rw [ints_size]; decide)) (onek .u64 [1, 0, 0, 0, 0, 0, 0, 0, 0, 0, 0, 0, 0, 0, 0, 0]) (patch_all _ _ _ (by rfl))
  refine hK.out _ _ (below_setRow HB0.out HG3.out _) (fun _ => trivial) ?_
  clear hK K'
  replace HB0 := hidden (below_setRow HB0.out HG3.out (ints .u64 [1, 0, 0, 0, 0, 0, 0, 0, 0, 0, 0, 0, 0, 0, 0, 0]))
  replace HN0 := hidden (HN0.out.rowOther g11 (ints .u64 [1, 0, 0, 0, 0, 0, 0, 0, 0, 0, 0, 0, 0, 0, 0, 0]) hne03)
  replace HN1 := hidden (HN1.out.rowOther g11 (ints .u64 [1, 0, 0, 0, 0, 0, 0, 0, 0, 0, 0, 0, 0, 0, 0, 0]) hne13)
  replace HN2 := hidden (HN2.out.rowOther g11 (ints .u64 [1, 0, 0, 0, 0, 0, 0, 0, 0, 0, 0, 0, 0, 0, 0, 0]) hne23)
  have HN3 := hidden (HZ3.out.row [1, 0, 0, 0, 0, 0, 0, 0, 0, 0, 0, 0, 0, 0, 0, 0])
  generalize World.setRow U7_3 _ _ = U7_4 at *
  refine anyC_done (by kernel_rfl) ?_ _
  subst hA0
  have HD : Hid (RD n gk m g8 g9 g10 g11) := by
    have h0 := HG0.out
    have h1 := HG1.out
    have h2 := HG2.out
    have h3 := HG3.out
    have h4 := heap_lt HK5.out
    have h5 := H7.out.lt
    have h6 := HNM.out
    exact ⟨by omega, by omega, by omega, by omega, by omega, by omega, by omega, by omega, by omega, by omega, by omega, by omega, hne01, hne02, hne03, hne12, hne13, hne23⟩
  have HI0 : Hid (RI w U7_4 n gk m g8 g9 g10 g11 ok LU [1, 0, 0, 0, 0, 0, 0, 0, 0, 0, 0, 0, 0, 0, 0, 0] (List.replicate 16 0) LU [1, 0, 0, 0, 0, 0, 0, 0, 0, 0, 0, 0, 0, 0, 0, 0]) :=
    ⟨by rw [HB0.out.block gk (heap_lt HK5.out)]; exact HK5.out, H7.out.below HB0.out, HN0.out, HN1.out, HN2.out, HN3.out, HB5.out.trans (HB0.out.mono (by have := H7.out.lt; have := HNM.out; omega))⟩
  have HST := hidden (lr_start u k LU HLU.out HFU.eq)
  clear HN0 HN1 HN2 HN3 HZ0 HZ1 HZ2 HZ3 HG0 HG1 HG2 HG3 hne01 hne02 hne03 hne12 hne13 hne23 HBD hl0 HB0 HK5 H7 HB5
  generalize U7_4 = w7 at *
  have HIU2 := HIU
  have HLU2 := HLU
  go_wp2
  go_loopw [12] (fun i wr => ∃ (r : Nat) (A B C D : List Int), r ≤ 255 ∧ i = .int .i64 (254 - (r : Int)) ∧ LR (lad u k r) A B C D ∧ RI w wr n gk m g8 g9 g10 g11 ok LU A B C D) (fun i _ => (intOf i + 1).toNat)
  case atStart => exact ⟨0, _, _, _, _, by omega, rfl, HST.out, HI0.out⟩
  case round =>
    clear HI0 HST
    obtain ⟨r, A, B, C, D, hr, rfl, hld, hi⟩ := hrel
    have HI1 := hidden hi
    have HLR := hidden hld
    have HIA := hidden (infoD A hld.la.len)
    have HIB := hidden (infoD B hld.lb.len)
    have HIC := hidden (infoD C hld.lc.len)
    have HID := hidden (infoD D hld.ld.len)
    clear hi hld
    by_cases hlt : r < 255
    · obtain ⟨j, hj⟩ : ∃ j : Nat, j = 254 - r := ⟨_, rfl⟩
      have ecast : 254 - (r : Int) = (j : Int) := by omega
      have HLAD := Is.mk (lad_succ u k r)
      rw [← hj] at HLAD
      rw [ecast]
      have HJ := hidden hj
      have hj8 : j / 8 < 32 := by omega
      clear hj ecast
      have HT := hidden (bitK_rng k j)
      have hcx := HKC.out wr HI1.out.hk (j / 8) hj8
      have hbk : bitK k j = k.getD (j / 8) 0 / 2 ^ (j % 8) % 2 := rfl
      have hx := rng_getD HKR.out (j / 8)
      generalize k.getD (j / 8) 0 = x at *
      have hand := and1_u8 (x / 2 ^ (j % 8)) (shr_rng x _ hx.1 (by omega)).1 (shr_rng x _ hx.1 (by omega)).2
      rw [← hbk] at hand
      have HAND := Is.mk hand
      clear hbk hand
      generalize bitK k j = T at *
      have hj254 : j ≤ 254 := by have := HJ.out; omega
      have b0 : (0 : Int) ≤ (j : Int) := by omega
      have c2 : (j : Int) / 8 < 32 := by omega
      have c3 : (0 : Int) ≤ (j : Int) / 8 := by omega
      have c4 : ((j : Int) / 8).toNat = j / 8 := by omega
      have c5 : (0 : Int) ≤ (j : Int) % 8 := by omega
      have c6 : IntKind.i64.wrap ((j : Int) / 8) = (j : Int) / 8 := wraps_i64 _ (by omega) (by omega)
      have c7 : (j : Int).tmod 8 = (j : Int) % 8 := Int.tmod_eq_emod_of_nonneg (by omega)
      have c8 : ((j : Int) % 8).toNat = j % 8 := by omega
      have c9 : IntKind.u64.wrap ((j : Int) % 8) = (j : Int) % 8 := by rw [IntKind.wrap_u64]; omega
      have hand := HAND.eq
      go_upto_region 12 with fail
      clear hcx hx hand HAND b0 c2 c3 c4 c5 c6 c7 c8 c9 hj8
      go_upto_if 71 with fail
      obtain ⟨tb, htb⟩ : ∃ b, b = (T == 1) := ⟨_, rfl⟩
      rw [← htb]
      have HTB : Hid (T = 0 ∧ tb = false ∨ T = 1 ∧ tb = true) := by
        rcases HT.out with h | h
        · exact hidden (Or.inl ⟨h, by rw [htb, h]; rfl⟩)
        · exact hidden (Or.inr ⟨h, by rw [htb, h]; rfl⟩)
      clear htb HT
      go_cut [] from 56 to 130 (fun wx => ∃ A2 B2 C2 D2, LR (lswp T (lad u k r)) A2 B2 C2 D2 ∧ RI w wx n gk m g8 g9 g10 g11 ok LU A2 B2 C2 D2)
      case first =>
        rcases HTB.out with ⟨hT, hb⟩ | ⟨hT, hb⟩
        · subst hb
          go_wp2
          go_meet
          case rel => exact ⟨A, B, C, D, by rw [hT]; exact HLR.out.swp0, HI1.out⟩
        · subst hb
          go_upto_region 13 with fail
          refine wp_region_lit ?_
          refine wpList_load_row rfl 54 _ rfl g10 (by kernel_rfl) 54 _ (0, 0) _ HI1.out.h10.heap Try.underlying54 rfl HIC.out ?_
          refine wpList_load_row rfl 54 _ rfl g8 (by kernel_rfl) 54 _ (0, 0) _ HI1.out.h8.heap Try.underlying54 rfl HIA.out ?_
          refine wpList_store_row rfl 54 _ _ rfl g8 (ints .u64 C) (by kernel_rfl) (by kernel_rfl) 54 _ HI1.out.h8.heap HIC.out (by rw [ints_size, ints_size, HLR.out.la.len, HLR.out.lc.len]) (onek .u64 C) ?_
          have HIe1 := hidden (HI1.out.set8 HD.out C)
          clear HI1
          generalize World.setRow wr g8 _ = y1 at *
          refine wpList_store_row rfl 54 _ _ rfl g10 (ints .u64 A) (by kernel_rfl) (by kernel_rfl) 54 _ HIe1.out.h10.heap HIA.out (by rw [ints_size, ints_size, HLR.out.lc.len, HLR.out.la.len]) (onek .u64 A) ?_
          have HIe2 := hidden (HIe1.out.set10 HD.out A)
          clear HIe1
          generalize World.setRow y1 g10 _ = y2 at *
          refine wpList_nil ?_
          go_upto_region 14 with fail
          refine wp_region_lit ?_
          refine wpList_load_row rfl 54 _ rfl g11 (by kernel_rfl) 54 _ (0, 0) _ HIe2.out.h11.heap Try.underlying54 rfl HID.out ?_
          refine wpList_load_row rfl 54 _ rfl g9 (by kernel_rfl) 54 _ (0, 0) _ HIe2.out.h9.heap Try.underlying54 rfl HIB.out ?_
          refine wpList_store_row rfl 54 _ _ rfl g9 (ints .u64 D) (by kernel_rfl) (by kernel_rfl) 54 _ HIe2.out.h9.heap HID.out (by rw [ints_size, ints_size, HLR.out.lb.len, HLR.out.ld.len]) (onek .u64 D) ?_
          have HIe3 := hidden (HIe2.out.set9 HD.out D)
          clear HIe2
          generalize World.setRow y2 g9 _ = y3 at *
          refine wpList_store_row rfl 54 _ _ rfl g11 (ints .u64 B) (by kernel_rfl) (by kernel_rfl) 54 _ HIe3.out.h11.heap HIB.out (by rw [ints_size, ints_size, HLR.out.ld.len, HLR.out.lb.len]) (onek .u64 B) ?_
          have HIe4 := hidden (HIe3.out.set11 HD.out B)
          clear HIe3
          generalize World.setRow y3 g11 _ = y4 at *
          refine wpList_nil ?_
          go_wp2
          go_meet
          case rel => exact ⟨C, D, A, B, by rw [hT]; exact HLR.out.swp1, HIe4.out⟩
      case rest =>
        obtain ⟨L8, L9, L10, L11, hls, hix⟩ := hcut
        have HLS2 := hidden hls
        have HI_x2 := hidden hix
        obtain ⟨S2, hS2⟩ : ∃ S, S = lswp T (lad u k r) := ⟨_, rfl⟩
        rw [← hS2] at HLS2
        have HS2 := Is.mk hS2
        clear HLR HIA HIB HIC HID HI1 hS2 hls hix
        obtain ⟨x2, rfl⟩ : ∃ L, L = wc := ⟨_, rfl⟩
        have HL8 := hidden HLS2.out.la
        have HL9 := hidden HLS2.out.lb
        have HL10 := hidden HLS2.out.lc
        have HL11 := hidden HLS2.out.ld
        have HF8 := Is.mk HLS2.out.fa
        have HF9 := Is.mk HLS2.out.fb
        have HF10 := Is.mk HLS2.out.fc
        have HF11 := Is.mk HLS2.out.fdd
        have HI8 := hidden (infoD L8 HL8.out.len)
        have HI9 := hidden (infoD L9 HL9.out.len)
        have HI10 := hidden (infoD L10 HL10.out.len)
        have HI11 := hidden (infoD L11 HL11.out.len)
        clear HLS2
        obtain ⟨xA, hxA⟩ : ∃ x, S2.a = x := ⟨_, rfl⟩
        obtain ⟨xB, hxB⟩ : ∃ x, S2.b = x := ⟨_, rfl⟩
        obtain ⟨xC, hxC⟩ : ∃ x, S2.c = x := ⟨_, rfl⟩
        obtain ⟨xD, hxD⟩ : ∃ x, S2.d = x := ⟨_, rfl⟩
        have HXS := hidden (⟨hxA, hxB, hxC, hxD⟩ : S2.a = xA ∧ S2.b = xB ∧ S2.c = xC ∧ S2.d = xD)
        rw [hxA] at HF8
        rw [hxB] at HF9
        rw [hxC] at HF10
        rw [hxD] at HF11
        clear hxA hxB hxC hxD
        obtain ⟨N, hN⟩ : ∃ N, x2.heap.size = N := ⟨_, rfl⟩
        have HNB_x2 : Hid (N ≤ x2.heap.size) := hidden (Nat.le_of_eq hN.symm)
        have HLN8 : Hid (g8 < N) := by rw [← hN]; exact hidden HI_x2.out.h8.lt
        have HLN9 : Hid (g9 < N) := by rw [← hN]; exact hidden HI_x2.out.h9.lt
        have HLN10 : Hid (g10 < N) := by rw [← hN]; exact hidden HI_x2.out.h10.lt
        have HLN11 : Hid (g11 < N) := by rw [← hN]; exact hidden HI_x2.out.h11.lt
        clear hN
        -- statement 15
        go_upto_region 15 with fail
        have HBD := hidden ((Below.refl x2.heap.size x2).drew)
        refine region_C 16 (fun U => Below x2.heap.size x2 U) (fun _ => True) (by kernel_rfl) HBD.out trivial (fun hS0 _ => ?_)
        refine anyC_take (i := 0) (v := .agg (ints .u64 L8)) rfl rfl (by decide) (by kernel_rfl) (by kernel_rfl) (by kernel_rfl) (fun _ _ _ h => h) (Or.inl ⟨by rfl, ?_⟩) hS0 (fun _ => trivial) ?_
        · rintro w0 hb0
          exact fl_load 54 _ rfl g8 0 (by kernel_rfl) 54 _ _ (0, 0) _ ((HI_x2.out.h8.below hb0)).heap Try.underlying54 rfl HI8.out (fun j v h => part_all _ _ j v h)
        refine anyC_take (i := 1) (v := .agg (ints .u64 L9)) rfl rfl (by decide) (by kernel_rfl) (by kernel_rfl) (by kernel_rfl) (fun _ _ _ h => h) (Or.inl ⟨by rfl, ?_⟩) hS0 (fun _ => trivial) ?_
        · rintro w0 hb0
          exact fl_load 54 _ rfl g9 0 (by kernel_rfl) 54 _ _ (0, 0) _ ((HI_x2.out.h9.below hb0)).heap Try.underlying54 rfl HI9.out (fun j v h => part_all _ _ j v h)
        refine anyC_take (i := 3) (v := .agg (ints .u64 L8)) rfl rfl (by decide) (by kernel_rfl) (by kernel_rfl) (by kernel_rfl) (fun _ _ _ h => h) (Or.inl ⟨by rfl, ?_⟩) hS0 (fun _ => trivial) ?_
        · rintro w0 hb0
          exact fl_load 54 _ rfl g8 0 (by kernel_rfl) 54 _ _ (0, 0) _ ((HI_x2.out.h8.below hb0)).heap Try.underlying54 rfl HI8.out (fun j v h => part_all _ _ j v h)
        refine anyC_take (i := 4) (v := .agg (ints .u64 L9)) rfl rfl (by decide) (by kernel_rfl) (by kernel_rfl) (by kernel_rfl) (fun _ _ _ h => h) (Or.inl ⟨by rfl, ?_⟩) hS0 (fun _ => trivial) ?_
        · rintro w0 hb0
          exact fl_load 54 _ rfl g9 0 (by kernel_rfl) 54 _ _ (0, 0) _ ((HI_x2.out.h9.below hb0)).heap Try.underlying54 rfl HI9.out (fun j v h => part_all _ _ j v h)
        refine anyC_take (i := 6) (v := .agg (ints .u64 L10)) rfl rfl (by decide) (by kernel_rfl) (by kernel_rfl) (by kernel_rfl) (fun _ _ _ h => h) (Or.inl ⟨by rfl, ?_⟩) hS0 (fun _ => trivial) ?_
        · rintro w0 hb0
          exact fl_load 54 _ rfl g10 0 (by kernel_rfl) 54 _ _ (0, 0) _ ((HI_x2.out.h10.below hb0)).heap Try.underlying54 rfl HI10.out (fun j v h => part_all _ _ j v h)
        refine anyC_take (i := 7) (v := .agg (ints .u64 L11)) rfl rfl (by decide) (by kernel_rfl) (by kernel_rfl) (by kernel_rfl) (fun _ _ _ h => h) (Or.inl ⟨by rfl, ?_⟩) hS0 (fun _ => trivial) ?_
        · rintro w0 hb0
          exact fl_load 54 _ rfl g11 0 (by kernel_rfl) 54 _ _ (0, 0) _ ((HI_x2.out.h11.below hb0)).heap Try.underlying54 rfl HI11.out (fun j v h => part_all _ _ j v h)
        refine anyC_take (i := 9) (v := .agg (ints .u64 L10)) rfl rfl (by decide) (by kernel_rfl) (by kernel_rfl) (by kernel_rfl) (fun _ _ _ h => h) (Or.inl ⟨by rfl, ?_⟩) hS0 (fun _ => trivial) ?_
        · rintro w0 hb0
          exact fl_load 54 _ rfl g10 0 (by kernel_rfl) 54 _ _ (0, 0) _ ((HI_x2.out.h10.below hb0)).heap Try.underlying54 rfl HI10.out (fun j v h => part_all _ _ j v h)
        refine anyC_take (i := 10) (v := .agg (ints .u64 L11)) rfl rfl (by decide) (by kernel_rfl) (by kernel_rfl) (by kernel_rfl) (fun _ _ _ h => h) (Or.inl ⟨by rfl, ?_⟩) hS0 (fun _ => trivial) ?_
        · rintro w0 hb0
          exact fl_load 54 _ rfl g11 0 (by kernel_rfl) 54 _ _ (0, 0) _ ((HI_x2.out.h11.below hb0)).heap Try.underlying54 rfl HI11.out (fun j v h => part_all _ _ j v h)
        generalize hl0 : Array.setIfInBounds (α := Bool) _ _ _ = l0
        generalize hA0 : Act.put _ _ _ = A0
        refine anyC_run x2 .u64 54 (List.replicate 16 0) 4 4 stR15 (fun v p => ((((((((A0.put (some 78) (v 0)).put (some 81) (v 1)).put (some 84) (v 2)).put (some 87) (v 3)).put (some 14) (p 0)).put (some 15) (p 1)).put (some 16) (p 2)).put (some 17) (p 3))) (fun k x => if k = 0 then ResD ((xA + xB)) x else if k = 1 then ResD ((xA - xB)) x else if k = 2 then ResD ((xC + xD)) x else if k = 3 then ResD ((xC - xD)) x else True) [2, 5, 8, 11] [12, 13, 14, 15] (by kernel_rfl) (fun U hb => ⟨hb, trivial⟩) ?_ ?_ ?_ l0 A0 (fun k => if k = 0 then u78 else if k = 1 then u81 else if k = 2 then u84 else if k = 3 then u87 else undef) (fun j => if j = 0 then u14 else if j = 1 then u15 else if j = 2 then u16 else if j = 3 then u17 else undef) (by rw [← hl0]; kernel_rfl) (by subst hA0; kernel_rfl) x2.drew HBD.out _ (by subst hl0; decide +kernel)
        · intro k v p U hk hr hb Φ h
          have h3 : k = 0 ∨ k = 1 ∨ k = 2 ∨ k = 3 := by omega
          rcases h3 with rfl | rfl | rfl | rfl
          · refine wpOp_step rfl (fun K' hK => ?_)
            refine fl_call rfl (f := 23) (args := #[.agg (ints .u64 L8), .agg (ints .u64 L9)]) (by subst hA0; kernel_rfl) (dadd_c L8 L9 HL8.out HL9.out U) (fun x U' hx => hK _ _ ?_)
            have e := h x U' (by have hx1 := hx.1; rw [HF8.eq, HF9.eq] at hx1; exact hx1) hx.2
            have e2 : (((((((((A0.put (some 78) (v 0)).put (some 81) (v 1)).put (some 84) (v 2)).put (some 87) (v 3)).put (some 14) (p 0)).put (some 15) (p 1)).put (some 16) (p 2)).put (some 17) (p 3)).put (some 78) x) = ((((((((A0.put (some 78) x).put (some 81) (v 1)).put (some 84) (v 2)).put (some 87) (v 3)).put (some 14) (p 0)).put (some 15) (p 1)).put (some 16) (p 2)).put (some 17) (p 3)) := by subst hA0; kernel_rfl
            exact (congrArg (fun a => Φ a U') e2).mpr e
          · refine wpOp_step rfl (fun K' hK => ?_)
            refine fl_call rfl (f := 24) (args := #[.agg (ints .u64 L8), .agg (ints .u64 L9)]) (by subst hA0; kernel_rfl) (dsub_c L8 L9 HL8.out HL9.out U) (fun x U' hx => hK _ _ ?_)
            have e := h x U' (by have hx1 := hx.1; rw [HF8.eq, HF9.eq] at hx1; exact hx1) hx.2
            have e2 : (((((((((A0.put (some 78) (v 0)).put (some 81) (v 1)).put (some 84) (v 2)).put (some 87) (v 3)).put (some 14) (p 0)).put (some 15) (p 1)).put (some 16) (p 2)).put (some 17) (p 3)).put (some 81) x) = ((((((((A0.put (some 78) (v 0)).put (some 81) x).put (some 84) (v 2)).put (some 87) (v 3)).put (some 14) (p 0)).put (some 15) (p 1)).put (some 16) (p 2)).put (some 17) (p 3)) := by subst hA0; kernel_rfl
            exact (congrArg (fun a => Φ a U') e2).mpr e
          · refine wpOp_step rfl (fun K' hK => ?_)
            refine fl_call rfl (f := 23) (args := #[.agg (ints .u64 L10), .agg (ints .u64 L11)]) (by subst hA0; kernel_rfl) (dadd_c L10 L11 HL10.out HL11.out U) (fun x U' hx => hK _ _ ?_)
            have e := h x U' (by have hx1 := hx.1; rw [HF10.eq, HF11.eq] at hx1; exact hx1) hx.2
            have e2 : (((((((((A0.put (some 78) (v 0)).put (some 81) (v 1)).put (some 84) (v 2)).put (some 87) (v 3)).put (some 14) (p 0)).put (some 15) (p 1)).put (some 16) (p 2)).put (some 17) (p 3)).put (some 84) x) = ((((((((A0.put (some 78) (v 0)).put (some 81) (v 1)).put (some 84) x).put (some 87) (v 3)).put (some 14) (p 0)).put (some 15) (p 1)).put (some 16) (p 2)).put (some 17) (p 3)) := by subst hA0; kernel_rfl
            exact (congrArg (fun a => Φ a U') e2).mpr e
          · refine wpOp_step rfl (fun K' hK => ?_)
            refine fl_call rfl (f := 24) (args := #[.agg (ints .u64 L10), .agg (ints .u64 L11)]) (by subst hA0; kernel_rfl) (dsub_c L10 L11 HL10.out HL11.out U) (fun x U' hx => hK _ _ ?_)
            have e := h x U' (by have hx1 := hx.1; rw [HF10.eq, HF11.eq] at hx1; exact hx1) hx.2
            have e2 : (((((((((A0.put (some 78) (v 0)).put (some 81) (v 1)).put (some 84) (v 2)).put (some 87) (v 3)).put (some 14) (p 0)).put (some 15) (p 1)).put (some 16) (p 2)).put (some 17) (p 3)).put (some 87) x) = ((((((((A0.put (some 78) (v 0)).put (some 81) (v 1)).put (some 84) (v 2)).put (some 87) x).put (some 14) (p 0)).put (some 15) (p 1)).put (some 16) (p 2)).put (some 17) (p 3)) := by subst hA0; kernel_rfl
            exact (congrArg (fun a => Φ a U') e2).mpr e
        · intro j v p U hj Φ h
          have h3 : j = 0 ∨ j = 1 ∨ j = 2 ∨ j = 3 := by omega
          rcases h3 with rfl | rfl | rfl | rfl
          · refine wpOp_step rfl (fun K' hK => ?_)
            refine fl_exec rfl (v := .pointer (some ⟨U.heap.size, 0, none⟩)) (w' := U.alloc (.cells (ints .u64 (List.replicate 16 0)) 54)) (by kernel_rfl) (hK _ _ ?_)
            have e2 : (((((((((A0.put (some 78) (v 0)).put (some 81) (v 1)).put (some 84) (v 2)).put (some 87) (v 3)).put (some 14) (p 0)).put (some 15) (p 1)).put (some 16) (p 2)).put (some 17) (p 3)).put (some 14) (.pointer (some ⟨U.heap.size, 0, none⟩))) = ((((((((A0.put (some 78) (v 0)).put (some 81) (v 1)).put (some 84) (v 2)).put (some 87) (v 3)).put (some 14) (.pointer (some ⟨U.heap.size, 0, none⟩))).put (some 15) (p 1)).put (some 16) (p 2)).put (some 17) (p 3)) := by subst hA0; kernel_rfl
            exact (congrArg (fun a => Φ a _) e2).mpr h
          · refine wpOp_step rfl (fun K' hK => ?_)
            refine fl_exec rfl (v := .pointer (some ⟨U.heap.size, 0, none⟩)) (w' := U.alloc (.cells (ints .u64 (List.replicate 16 0)) 54)) (by kernel_rfl) (hK _ _ ?_)
            have e2 : (((((((((A0.put (some 78) (v 0)).put (some 81) (v 1)).put (some 84) (v 2)).put (some 87) (v 3)).put (some 14) (p 0)).put (some 15) (p 1)).put (some 16) (p 2)).put (some 17) (p 3)).put (some 15) (.pointer (some ⟨U.heap.size, 0, none⟩))) = ((((((((A0.put (some 78) (v 0)).put (some 81) (v 1)).put (some 84) (v 2)).put (some 87) (v 3)).put (some 14) (p 0)).put (some 15) (.pointer (some ⟨U.heap.size, 0, none⟩))).put (some 16) (p 2)).put (some 17) (p 3)) := by subst hA0; kernel_rfl
            exact (congrArg (fun a => Φ a _) e2).mpr h
          · refine wpOp_step rfl (fun K' hK => ?_)
            refine fl_exec rfl (v := .pointer (some ⟨U.heap.size, 0, none⟩)) (w' := U.alloc (.cells (ints .u64 (List.replicate 16 0)) 54)) (by kernel_rfl) (hK _ _ ?_)
            have e2 : (((((((((A0.put (some 78) (v 0)).put (some 81) (v 1)).put (some 84) (v 2)).put (some 87) (v 3)).put (some 14) (p 0)).put (some 15) (p 1)).put (some 16) (p 2)).put (some 17) (p 3)).put (some 16) (.pointer (some ⟨U.heap.size, 0, none⟩))) = ((((((((A0.put (some 78) (v 0)).put (some 81) (v 1)).put (some 84) (v 2)).put (some 87) (v 3)).put (some 14) (p 0)).put (some 15) (p 1)).put (some 16) (.pointer (some ⟨U.heap.size, 0, none⟩))).put (some 17) (p 3)) := by subst hA0; kernel_rfl
            exact (congrArg (fun a => Φ a _) e2).mpr h
          · refine wpOp_step rfl (fun K' hK => ?_)
            refine fl_exec rfl (v := .pointer (some ⟨U.heap.size, 0, none⟩)) (w' := U.alloc (.cells (ints .u64 (List.replicate 16 0)) 54)) (by kernel_rfl) (hK _ _ ?_)
            have e2 : (((((((((A0.put (some 78) (v 0)).put (some 81) (v 1)).put (some 84) (v 2)).put (some 87) (v 3)).put (some 14) (p 0)).put (some 15) (p 1)).put (some 16) (p 2)).put (some 17) (p 3)).put (some 17) (.pointer (some ⟨U.heap.size, 0, none⟩))) = ((((((((A0.put (some 78) (v 0)).put (some 81) (v 1)).put (some 84) (v 2)).put (some 87) (v 3)).put (some 14) (p 0)).put (some 15) (p 1)).put (some 16) (p 2)).put (some 17) (.pointer (some ⟨U.heap.size, 0, none⟩))) := by subst hA0; kernel_rfl
            exact (congrArg (fun a => Φ a _) e2).mpr h
        intro v pp U hr hb hp hne n0 hn0
        obtain ⟨L14, e0, hl14, hf14⟩ := hr 0 (by decide)
        have HL14 := hidden hl14
        have HF14 := Is.mk hf14
        have HI14 := hidden (infoD L14 hl14.len)
        have HZ14 := hidden hl14.len
        clear hl14 hf14
        obtain ⟨L15, e1, hl15, hf15⟩ := hr 1 (by decide)
        have HL15 := hidden hl15
        have HF15 := Is.mk hf15
        have HI15 := hidden (infoD L15 hl15.len)
        have HZ15 := hidden hl15.len
        clear hl15 hf15
        obtain ⟨L16, e2, hl16, hf16⟩ := hr 2 (by decide)
        have HL16 := hidden hl16
        have HF16 := Is.mk hf16
        have HI16 := hidden (infoD L16 hl16.len)
        have HZ16 := hidden hl16.len
        clear hl16 hf16
        obtain ⟨L17, e3, hl17, hf17⟩ := hr 3 (by decide)
        have HL17 := hidden hl17
        have HF17 := Is.mk hf17
        have HI17 := hidden (infoD L17 hl17.len)
        have HZ17 := hidden hl17.len
        clear hl17 hf17
        obtain ⟨g14, d0, hg0, hz0⟩ := hp 0 (by decide)
        have HZ0 := hidden hz0
        have HG0 := hidden hg0
        obtain ⟨g15, d1, hg1, hz1⟩ := hp 1 (by decide)
        have HZ1 := hidden hz1
        have HG1 := hidden hg1
        obtain ⟨g16, d2, hg2, hz2⟩ := hp 2 (by decide)
        have HZ2 := hidden hz2
        have HG2 := hidden hg2
        obtain ⟨g17, d3, hg3, hz3⟩ := hp 3 (by decide)
        have HZ3 := hidden hz3
        have HG3 := hidden hg3
        have hne01 : g14 ≠ g15 := fun e => hne 0 1 (by decide) (by decide) (by decide) (by rw [d0, d1, e])
        have hne02 : g14 ≠ g16 := fun e => hne 0 2 (by decide) (by decide) (by decide) (by rw [d0, d2, e])
        have hne12 : g15 ≠ g16 := fun e => hne 1 2 (by decide) (by decide) (by decide) (by rw [d1, d2, e])
        have hne03 : g14 ≠ g17 := fun e => hne 0 3 (by decide) (by decide) (by decide) (by rw [d0, d3, e])
        have hne13 : g15 ≠ g17 := fun e => hne 1 3 (by decide) (by decide) (by decide) (by rw [d1, d3, e])
        have hne23 : g16 ≠ g17 := fun e => hne 2 3 (by decide) (by decide) (by decide) (by rw [d2, d3, e])
        obtain ⟨n0, rfl⟩ : ∃ m, n0 = m + 4 := ⟨n0 - 4, by have : cnt (stR15 4 (bitsOf 4 fun _ => true)) = 4 := (by decide +kernel); omega⟩
        simp only [e0, e1, e2, e3, d0, d1, d2, d3]
        clear hr hp hne hn0 e0 e1 e2 e3 d0 hz0 hg0 d1 hz1 hg1 d2 hz2 hg2 d3 hz3 hg3
        have HB0 := hidden hb
        clear hb hS0
        refine anyC_one (i := 16) (by kernel_rfl) rfl (fun K' hK => ?_)
        with_reducible refine fl_skip (w' := U.setRow g14 (ints .u64 L14)) ?_ ?_ ?_
        · rfl
        · exact fl_store 54 _ _ rfl g14 0 (ints .u64 L14) (ints .u64 L14) (by subst hA0; kernel_rfl) (by subst hA0; kernel_rfl) 54 _ HZ0.out.heap HI14.out (by first | (rw [ints_size, ints_size, HZ14.out]; decide) | (rw [ints_size]; decide)) (onek .u64 L14) (patch_all _ _ _ (by rw [HZ14.out]; rfl))
        refine hK.out _ _ (below_setRow HB0.out HG0.out _) (fun _ => trivial) ?_
        clear hK K'
        replace HB0 := hidden (below_setRow HB0.out HG0.out (ints .u64 L14))
        have HN0 := hidden (HZ0.out.row L14)
        replace HZ1 := hidden (HZ1.out.rowOther g14 (ints .u64 L14) (Ne.symm hne01))
        replace HZ2 := hidden (HZ2.out.rowOther g14 (ints .u64 L14) (Ne.symm hne02))
        replace HZ3 := hidden (HZ3.out.rowOther g14 (ints .u64 L14) (Ne.symm hne03))
        generalize World.setRow U _ _ = U15_1 at *
        refine anyC_one (i := 17) (by kernel_rfl) rfl (fun K' hK => ?_)
        with_reducible refine fl_skip (w' := U15_1.setRow g15 (ints .u64 L15)) ?_ ?_ ?_
        · rfl
        · exact fl_store 54 _ _ rfl g15 0 (ints .u64 L15) (ints .u64 L15) (by subst hA0; kernel_rfl) (by subst hA0; kernel_rfl) 54 _ HZ1.out.heap HI15.out (by first | (rw [ints_size, ints_size, HZ15.out]; decide) | (rw [ints_size]; decide)) (onek .u64 L15) (patch_all _ _ _ (by rw [HZ15.out]; rfl))
        refine hK.out _ _ (below_setRow HB0.out HG1.out _) (fun _ => trivial) ?_
        clear hK K'
        replace HB0 := hidden (below_setRow HB0.out HG1.out (ints .u64 L15))
        replace HN0 := hidden (HN0.out.rowOther g15 (ints .u64 L15) hne01)
        have HN1 := hidden (HZ1.out.row L15)
        replace HZ2 := hidden (HZ2.out.rowOther g15 (ints .u64 L15) (Ne.symm hne12))
        replace HZ3 := hidden (HZ3.out.rowOther g15 (ints .u64 L15) (Ne.symm hne13))
        generalize World.setRow U15_1 _ _ = U15_2 at *
        refine anyC_one (i := 18) (by kernel_rfl) rfl (fun K' hK => ?_)
        with_reducible refine fl_skip (w' := U15_2.setRow g16 (ints .u64 L16)) ?_ ?_ ?_
        · rfl
        · exact fl_store 54 _ _ rfl g16 0 (ints .u64 L16) (ints .u64 L16) (by subst hA0; kernel_rfl) (by subst hA0; kernel_rfl) 54 _ HZ2.out.heap HI16.out (by first | (rw [ints_size, ints_size, HZ16.out]; decide) | (rw [ints_size]; decide)) (onek .u64 L16) (patch_all _ _ _ (by rw [HZ16.out]; rfl))
        refine hK.out _ _ (below_setRow HB0.out HG2.out _) (fun _ => trivial) ?_
        clear hK K'
        replace HB0 := hidden (below_setRow HB0.out HG2.out (ints .u64 L16))
        replace HN0 := hidden (HN0.out.rowOther g16 (ints .u64 L16) hne02)
        replace HN1 := hidden (HN1.out.rowOther g16 (ints .u64 L16) hne12)
        have HN2 := hidden (HZ2.out.row L16)
        replace HZ3 := hidden (HZ3.out.rowOther g16 (ints .u64 L16) (Ne.symm hne23))
        generalize World.setRow U15_2 _ _ = U15_3 at *
        refine anyC_one (i := 19) (by kernel_rfl) rfl (fun K' hK => ?_)
        with_reducible refine fl_skip (w' := U15_3.setRow g17 (ints .u64 L17)) ?_ ?_ ?_
        · rfl
        · exact fl_store 54 _ _ rfl g17 0 (ints .u64 L17) (ints .u64 L17) (by subst hA0; kernel_rfl) (by subst hA0; kernel_rfl) 54 _ HZ3.out.heap HI17.out (by first | (rw [ints_size, ints_size, HZ17.out]; decide) | (rw [ints_size]; decide)) (onek .u64 L17) (patch_all _ _ _ (by rw [HZ17.out]; rfl))
        refine hK.out _ _ (below_setRow HB0.out HG3.out _) (fun _ => trivial) ?_
        clear hK K'
        replace HB0 := hidden (below_setRow HB0.out HG3.out (ints .u64 L17))
        replace HN0 := hidden (HN0.out.rowOther g17 (ints .u64 L17) hne03)
        replace HN1 := hidden (HN1.out.rowOther g17 (ints .u64 L17) hne13)
        replace HN2 := hidden (HN2.out.rowOther g17 (ints .u64 L17) hne23)
        have HN3 := hidden (HZ3.out.row L17)
        generalize World.setRow U15_3 _ _ = U15_4 at *
        refine anyC_done (by kernel_rfl) ?_ _
        subst hA0
        have HI_w15 := hidden (HI_x2.out.below HD.out HB0.out)
        have HNB_w15 : Hid (N ≤ U15_4.heap.size) := by have h1 := HNB_x2.out; have h2 := HB0.out.size; show N ≤ _; omega
        have H14_w15 := HN0
        have HGG14 : Hid (N ≤ g14) := by have h1 := HNB_x2.out; have h2 := HG0.out; show N ≤ _; omega
        have H15_w15 := HN1
        have HGG15 : Hid (N ≤ g15) := by have h1 := HNB_x2.out; have h2 := HG1.out; show N ≤ _; omega
        have H16_w15 := HN2
        have HGG16 : Hid (N ≤ g16) := by have h1 := HNB_x2.out; have h2 := HG2.out; show N ≤ _; omega
        have H17_w15 := HN3
        have HGG17 : Hid (N ≤ g17) := by have h1 := HNB_x2.out; have h2 := HG3.out; show N ≤ _; omega
        clear HI_x2 HNB_x2 HB0 HBD hl0  HN0 HZ0 HG0 HN1 HZ1 HG1 HN2 HZ2 HG2 HN3 HZ3 HG3 hne01 hne02 hne12 hne03 hne13 hne23
        generalize U15_4 = w15 at *
        -- statement 16
        go_upto_region 16 with fail
        have HBD := hidden ((Below.refl w15.heap.size w15).drew)
        refine region_C 16 (fun U => Below w15.heap.size w15 U) (fun _ => True) (by kernel_rfl) HBD.out trivial (fun hS0 _ => ?_)
        refine anyC_take (i := 0) (v := .agg (ints .u64 L14)) rfl rfl (by decide) (by kernel_rfl) (by kernel_rfl) (by kernel_rfl) (fun _ _ _ h => h) (Or.inl ⟨by rfl, ?_⟩) hS0 (fun _ => trivial) ?_
        · rintro w0 hb0
          exact fl_load 54 _ rfl g14 0 (by kernel_rfl) 54 _ _ (0, 0) _ ((H14_w15.out.below hb0)).heap Try.underlying54 rfl HI14.out (fun j v h => part_all _ _ j v h)
        refine anyC_take (i := 1) (v := .agg (ints .u64 L14)) rfl rfl (by decide) (by kernel_rfl) (by kernel_rfl) (by kernel_rfl) (fun _ _ _ h => h) (Or.inl ⟨by rfl, ?_⟩) hS0 (fun _ => trivial) ?_
        · rintro w0 hb0
          exact fl_load 54 _ rfl g14 0 (by kernel_rfl) 54 _ _ (0, 0) _ ((H14_w15.out.below hb0)).heap Try.underlying54 rfl HI14.out (fun j v h => part_all _ _ j v h)
        refine anyC_take (i := 3) (v := .agg (ints .u64 L15)) rfl rfl (by decide) (by kernel_rfl) (by kernel_rfl) (by kernel_rfl) (fun _ _ _ h => h) (Or.inl ⟨by rfl, ?_⟩) hS0 (fun _ => trivial) ?_
        · rintro w0 hb0
          exact fl_load 54 _ rfl g15 0 (by kernel_rfl) 54 _ _ (0, 0) _ ((H15_w15.out.below hb0)).heap Try.underlying54 rfl HI15.out (fun j v h => part_all _ _ j v h)
        refine anyC_take (i := 4) (v := .agg (ints .u64 L15)) rfl rfl (by decide) (by kernel_rfl) (by kernel_rfl) (by kernel_rfl) (fun _ _ _ h => h) (Or.inl ⟨by rfl, ?_⟩) hS0 (fun _ => trivial) ?_
        · rintro w0 hb0
          exact fl_load 54 _ rfl g15 0 (by kernel_rfl) 54 _ _ (0, 0) _ ((H15_w15.out.below hb0)).heap Try.underlying54 rfl HI15.out (fun j v h => part_all _ _ j v h)
        refine anyC_take (i := 6) (v := .agg (ints .u64 L17)) rfl rfl (by decide) (by kernel_rfl) (by kernel_rfl) (by kernel_rfl) (fun _ _ _ h => h) (Or.inl ⟨by rfl, ?_⟩) hS0 (fun _ => trivial) ?_
        · rintro w0 hb0
          exact fl_load 54 _ rfl g17 0 (by kernel_rfl) 54 _ _ (0, 0) _ ((H17_w15.out.below hb0)).heap Try.underlying54 rfl HI17.out (fun j v h => part_all _ _ j v h)
        refine anyC_take (i := 7) (v := .agg (ints .u64 L14)) rfl rfl (by decide) (by kernel_rfl) (by kernel_rfl) (by kernel_rfl) (fun _ _ _ h => h) (Or.inl ⟨by rfl, ?_⟩) hS0 (fun _ => trivial) ?_
        · rintro w0 hb0
          exact fl_load 54 _ rfl g14 0 (by kernel_rfl) 54 _ _ (0, 0) _ ((H14_w15.out.below hb0)).heap Try.underlying54 rfl HI14.out (fun j v h => part_all _ _ j v h)
        refine anyC_take (i := 9) (v := .agg (ints .u64 L16)) rfl rfl (by decide) (by kernel_rfl) (by kernel_rfl) (by kernel_rfl) (fun _ _ _ h => h) (Or.inl ⟨by rfl, ?_⟩) hS0 (fun _ => trivial) ?_
        · rintro w0 hb0
          exact fl_load 54 _ rfl g16 0 (by kernel_rfl) 54 _ _ (0, 0) _ ((H16_w15.out.below hb0)).heap Try.underlying54 rfl HI16.out (fun j v h => part_all _ _ j v h)
        refine anyC_take (i := 10) (v := .agg (ints .u64 L15)) rfl rfl (by decide) (by kernel_rfl) (by kernel_rfl) (by kernel_rfl) (fun _ _ _ h => h) (Or.inl ⟨by rfl, ?_⟩) hS0 (fun _ => trivial) ?_
        · rintro w0 hb0
          exact fl_load 54 _ rfl g15 0 (by kernel_rfl) 54 _ _ (0, 0) _ ((H15_w15.out.below hb0)).heap Try.underlying54 rfl HI15.out (fun j v h => part_all _ _ j v h)
        generalize hl0 : Array.setIfInBounds (α := Bool) _ _ _ = l0
        generalize hA0 : Act.put _ _ _ = A0
        refine anyC_run w15 .u64 54 (List.replicate 16 0) 4 4 stR15 (fun v p => ((((((((A0.put (some 90) (v 0)).put (some 93) (v 1)).put (some 96) (v 2)).put (some 99) (v 3)).put (some 18) (p 0)).put (some 19) (p 1)).put (some 20) (p 2)).put (some 21) (p 3))) (fun k x => if k = 0 then ResD ((xA + xB) * (xA + xB)) x else if k = 1 then ResD ((xA - xB) * (xA - xB)) x else if k = 2 then ResD ((xC - xD) * (xA + xB)) x else if k = 3 then ResD ((xC + xD) * (xA - xB)) x else True) [2, 5, 8, 11] [12, 13, 14, 15] (by kernel_rfl) (fun U hb => ⟨hb, trivial⟩) ?_ ?_ ?_ l0 A0 (fun k => if k = 0 then u90 else if k = 1 then u93 else if k = 2 then u96 else if k = 3 then u99 else undef) (fun j => if j = 0 then u18 else if j = 1 then u19 else if j = 2 then u20 else if j = 3 then u21 else undef) (by rw [← hl0]; kernel_rfl) (by subst hA0; kernel_rfl) w15.drew HBD.out _ (by subst hl0; decide +kernel)
        · intro k v p U hk hr hb Φ h
          have h3 : k = 0 ∨ k = 1 ∨ k = 2 ∨ k = 3 := by omega
          rcases h3 with rfl | rfl | rfl | rfl
          · refine wpOp_step rfl (fun K' hK => ?_)
            refine fl_call rfl (f := 25) (args := #[.agg (ints .u64 L14), .agg (ints .u64 L14)]) (by subst hA0; kernel_rfl) (dmul_c L14 L14 HL14.out HL14.out U) (fun x U' hx => hK _ _ ?_)
            have e := h x U' (by have hx1 := hx.1; rw [HF14.eq] at hx1; exact hx1) hx.2
            have e2 : (((((((((A0.put (some 90) (v 0)).put (some 93) (v 1)).put (some 96) (v 2)).put (some 99) (v 3)).put (some 18) (p 0)).put (some 19) (p 1)).put (some 20) (p 2)).put (some 21) (p 3)).put (some 90) x) = ((((((((A0.put (some 90) x).put (some 93) (v 1)).put (some 96) (v 2)).put (some 99) (v 3)).put (some 18) (p 0)).put (some 19) (p 1)).put (some 20) (p 2)).put (some 21) (p 3)) := by subst hA0; kernel_rfl
            exact (congrArg (fun a => Φ a U') e2).mpr e
          · refine wpOp_step rfl (fun K' hK => ?_)
            refine fl_call rfl (f := 25) (args := #[.agg (ints .u64 L15), .agg (ints .u64 L15)]) (by subst hA0; kernel_rfl) (dmul_c L15 L15 HL15.out HL15.out U) (fun x U' hx => hK _ _ ?_)
            have e := h x U' (by have hx1 := hx.1; rw [HF15.eq] at hx1; exact hx1) hx.2
            have e2 : (((((((((A0.put (some 90) (v 0)).put (some 93) (v 1)).put (some 96) (v 2)).put (some 99) (v 3)).put (some 18) (p 0)).put (some 19) (p 1)).put (some 20) (p 2)).put (some 21) (p 3)).put (some 93) x) = ((((((((A0.put (some 90) (v 0)).put (some 93) x).put (some 96) (v 2)).put (some 99) (v 3)).put (some 18) (p 0)).put (some 19) (p 1)).put (some 20) (p 2)).put (some 21) (p 3)) := by subst hA0; kernel_rfl
            exact (congrArg (fun a => Φ a U') e2).mpr e
          · refine wpOp_step rfl (fun K' hK => ?_)
            refine fl_call rfl (f := 25) (args := #[.agg (ints .u64 L17), .agg (ints .u64 L14)]) (by subst hA0; kernel_rfl) (dmul_c L17 L14 HL17.out HL14.out U) (fun x U' hx => hK _ _ ?_)
            have e := h x U' (by have hx1 := hx.1; rw [HF17.eq, HF14.eq] at hx1; exact hx1) hx.2
            have e2 : (((((((((A0.put (some 90) (v 0)).put (some 93) (v 1)).put (some 96) (v 2)).put (some 99) (v 3)).put (some 18) (p 0)).put (some 19) (p 1)).put (some 20) (p 2)).put (some 21) (p 3)).put (some 96) x) = ((((((((A0.put (some 90) (v 0)).put (some 93) (v 1)).put (some 96) x).put (some 99) (v 3)).put (some 18) (p 0)).put (some 19) (p 1)).put (some 20) (p 2)).put (some 21) (p 3)) := by subst hA0; kernel_rfl
            exact (congrArg (fun a => Φ a U') e2).mpr e
          · refine wpOp_step rfl (fun K' hK => ?_)
            refine fl_call rfl (f := 25) (args := #[.agg (ints .u64 L16), .agg (ints .u64 L15)]) (by subst hA0; kernel_rfl) (dmul_c L16 L15 HL16.out HL15.out U) (fun x U' hx => hK _ _ ?_)
            have e := h x U' (by have hx1 := hx.1; rw [HF16.eq, HF15.eq] at hx1; exact hx1) hx.2
            have e2 : (((((((((A0.put (some 90) (v 0)).put (some 93) (v 1)).put (some 96) (v 2)).put (some 99) (v 3)).put (some 18) (p 0)).put (some 19) (p 1)).put (some 20) (p 2)).put (some 21) (p 3)).put (some 99) x) = ((((((((A0.put (some 90) (v 0)).put (some 93) (v 1)).put (some 96) (v 2)).put (some 99) x).put (some 18) (p 0)).put (some 19) (p 1)).put (some 20) (p 2)).put (some 21) (p 3)) := by subst hA0; kernel_rfl
            exact (congrArg (fun a => Φ a U') e2).mpr e
        · intro j v p U hj Φ h
          have h3 : j = 0 ∨ j = 1 ∨ j = 2 ∨ j = 3 := by omega
          rcases h3 with rfl | rfl | rfl | rfl
          · refine wpOp_step rfl (fun K' hK => ?_)
            refine fl_exec rfl (v := .pointer (some ⟨U.heap.size, 0, none⟩)) (w' := U.alloc (.cells (ints .u64 (List.replicate 16 0)) 54)) (by kernel_rfl) (hK _ _ ?_)
            have e2 : (((((((((A0.put (some 90) (v 0)).put (some 93) (v 1)).put (some 96) (v 2)).put (some 99) (v 3)).put (some 18) (p 0)).put (some 19) (p 1)).put (some 20) (p 2)).put (some 21) (p 3)).put (some 18) (.pointer (some ⟨U.heap.size, 0, none⟩))) = ((((((((A0.put (some 90) (v 0)).put (some 93) (v 1)).put (some 96) (v 2)).put (some 99) (v 3)).put (some 18) (.pointer (some ⟨U.heap.size, 0, none⟩))).put (some 19) (p 1)).put (some 20) (p 2)).put (some 21) (p 3)) := by subst hA0; kernel_rfl
            exact (congrArg (fun a => Φ a _) e2).mpr h
          · refine wpOp_step rfl (fun K' hK => ?_)
            refine fl_exec rfl (v := .pointer (some ⟨U.heap.size, 0, none⟩)) (w' := U.alloc (.cells (ints .u64 (List.replicate 16 0)) 54)) (by kernel_rfl) (hK _ _ ?_)
            have e2 : (((((((((A0.put (some 90) (v 0)).put (some 93) (v 1)).put (some 96) (v 2)).put (some 99) (v 3)).put (some 18) (p 0)).put (some 19) (p 1)).put (some 20) (p 2)).put (some 21) (p 3)).put (some 19) (.pointer (some ⟨U.heap.size, 0, none⟩))) = ((((((((A0.put (some 90) (v 0)).put (some 93) (v 1)).put (some 96) (v 2)).put (some 99) (v 3)).put (some 18) (p 0)).put (some 19) (.pointer (some ⟨U.heap.size, 0, none⟩))).put (some 20) (p 2)).put (some 21) (p 3)) := by subst hA0; kernel_rfl
            exact (congrArg (fun a => Φ a _) e2).mpr h
          · refine wpOp_step rfl (fun K' hK => ?_)
            refine fl_exec rfl (v := .pointer (some ⟨U.heap.size, 0, none⟩)) (w' := U.alloc (.cells (ints .u64 (List.replicate 16 0)) 54)) (by kernel_rfl) (hK _ _ ?_)
            have e2 : (((((((((A0.put (some 90) (v 0)).put (some 93) (v 1)).put (some 96) (v 2)).put (some 99) (v 3)).put (some 18) (p 0)).put (some 19) (p 1)).put (some 20) (p 2)).put (some 21) (p 3)).put (some 20) (.pointer (some ⟨U.heap.size, 0, none⟩))) = ((((((((A0.put (some 90) (v 0)).put (some 93) (v 1)).put (some 96) (v 2)).put (some 99) (v 3)).put (some 18) (p 0)).put (some 19) (p 1)).put (some 20) (.pointer (some ⟨U.heap.size, 0, none⟩))).put (some 21) (p 3)) := by subst hA0; kernel_rfl
            exact (congrArg (fun a => Φ a _) e2).mpr h
          · refine wpOp_step rfl (fun K' hK => ?_)
            refine fl_exec rfl (v := .pointer (some ⟨U.heap.size, 0, none⟩)) (w' := U.alloc (.cells (ints .u64 (List.replicate 16 0)) 54)) (by kernel_rfl) (hK _ _ ?_)
            have e2 : (((((((((A0.put (some 90) (v 0)).put (some 93) (v 1)).put (some 96) (v 2)).put (some 99) (v 3)).put (some 18) (p 0)).put (some 19) (p 1)).put (some 20) (p 2)).put (some 21) (p 3)).put (some 21) (.pointer (some ⟨U.heap.size, 0, none⟩))) = ((((((((A0.put (some 90) (v 0)).put (some 93) (v 1)).put (some 96) (v 2)).put (some 99) (v 3)).put (some 18) (p 0)).put (some 19) (p 1)).put (some 20) (p 2)).put (some 21) (.pointer (some ⟨U.heap.size, 0, none⟩))) := by subst hA0; kernel_rfl
            exact (congrArg (fun a => Φ a _) e2).mpr h
        intro v pp U hr hb hp hne n0 hn0
        obtain ⟨L18, e0, hl18, hf18⟩ := hr 0 (by decide)
        have HL18 := hidden hl18
        have HF18 := Is.mk hf18
        have HI18 := hidden (infoD L18 hl18.len)
        have HZ18 := hidden hl18.len
        clear hl18 hf18
        obtain ⟨L19, e1, hl19, hf19⟩ := hr 1 (by decide)
        have HL19 := hidden hl19
        have HF19 := Is.mk hf19
        have HI19 := hidden (infoD L19 hl19.len)
        have HZ19 := hidden hl19.len
        clear hl19 hf19
        obtain ⟨L20, e2, hl20, hf20⟩ := hr 2 (by decide)
        have HL20 := hidden hl20
        have HF20 := Is.mk hf20
        have HI20 := hidden (infoD L20 hl20.len)
        have HZ20 := hidden hl20.len
        clear hl20 hf20
        obtain ⟨L21, e3, hl21, hf21⟩ := hr 3 (by decide)
        have HL21 := hidden hl21
        have HF21 := Is.mk hf21
        have HI21 := hidden (infoD L21 hl21.len)
        have HZ21 := hidden hl21.len
        clear hl21 hf21
        obtain ⟨g18, d0, hg0, hz0⟩ := hp 0 (by decide)
        have HZ0 := hidden hz0
        have HG0 := hidden hg0
        obtain ⟨g19, d1, hg1, hz1⟩ := hp 1 (by decide)
        have HZ1 := hidden hz1
        have HG1 := hidden hg1
        obtain ⟨g20, d2, hg2, hz2⟩ := hp 2 (by decide)
        have HZ2 := hidden hz2
        have HG2 := hidden hg2
        obtain ⟨g21, d3, hg3, hz3⟩ := hp 3 (by decide)
        have HZ3 := hidden hz3
        have HG3 := hidden hg3
        have hne01 : g18 ≠ g19 := fun e => hne 0 1 (by decide) (by decide) (by decide) (by rw [d0, d1, e])
        have hne02 : g18 ≠ g20 := fun e => hne 0 2 (by decide) (by decide) (by decide) (by rw [d0, d2, e])
        have hne12 : g19 ≠ g20 := fun e => hne 1 2 (by decide) (by decide) (by decide) (by rw [d1, d2, e])
        have hne03 : g18 ≠ g21 := fun e => hne 0 3 (by decide) (by decide) (by decide) (by rw [d0, d3, e])
        have hne13 : g19 ≠ g21 := fun e => hne 1 3 (by decide) (by decide) (by decide) (by rw [d1, d3, e])
        have hne23 : g20 ≠ g21 := fun e => hne 2 3 (by decide) (by decide) (by decide) (by rw [d2, d3, e])
        obtain ⟨n0, rfl⟩ : ∃ m, n0 = m + 4 := ⟨n0 - 4, by have : cnt (stR15 4 (bitsOf 4 fun _ => true)) = 4 := (by decide +kernel); omega⟩
        simp only [e0, e1, e2, e3, d0, d1, d2, d3]
        clear hr hp hne hn0 e0 e1 e2 e3 d0 hz0 hg0 d1 hz1 hg1 d2 hz2 hg2 d3 hz3 hg3
        have HB0 := hidden hb
        clear hb hS0
        refine anyC_one (i := 16) (by kernel_rfl) rfl (fun K' hK => ?_)
        with_reducible refine fl_skip (w' := U.setRow g18 (ints .u64 L18)) ?_ ?_ ?_
        · rfl
        · exact fl_store 54 _ _ rfl g18 0 (ints .u64 L18) (ints .u64 L18) (by subst hA0; kernel_rfl) (by subst hA0; kernel_rfl) 54 _ HZ0.out.heap HI18.out (by first | (rw [ints_size, ints_size, HZ18.out]; decide) | (rw [ints_size]; decide)) (onek .u64 L18) (patch_all _ _ _ (by rw [HZ18.out]; rfl))
        refine hK.out _ _ (below_setRow HB0.out HG0.out _) (fun _ => trivial) ?_
        clear hK K'
        replace HB0 := hidden (below_setRow HB0.out HG0.out (ints .u64 L18))
        have HN0 := hidden (HZ0.out.row L18)
        replace HZ1 := hidden (HZ1.out.rowOther g18 (ints .u64 L18) (Ne.symm hne01))
        replace HZ2 := hidden (HZ2.out.rowOther g18 (ints .u64 L18) (Ne.symm hne02))
        replace HZ3 := hidden (HZ3.out.rowOther g18 (ints .u64 L18) (Ne.symm hne03))
        generalize World.setRow U _ _ = U16_1 at *
        refine anyC_one (i := 17) (by kernel_rfl) rfl (fun K' hK => ?_)
        with_reducible refine fl_skip (w' := U16_1.setRow g19 (ints .u64 L19)) ?_ ?_ ?_
        · rfl
        · exact fl_store 54 _ _ rfl g19 0 (ints .u64 L19) (ints .u64 L19) (by subst hA0; kernel_rfl) (by subst hA0; kernel_rfl) 54 _ HZ1.out.heap HI19.out (by first | (rw [ints_size, ints_size, HZ19.out]; decide) | (rw [ints_size]; decide)) (onek .u64 L19) (patch_all _ _ _ (by rw [HZ19.out]; rfl))
        refine hK.out _ _ (below_setRow HB0.out HG1.out _) (fun _ => trivial) ?_
        clear hK K'
        replace HB0 := hidden (below_setRow HB0.out HG1.out (ints .u64 L19))
        replace HN0 := hidden (HN0.out.rowOther g19 (ints .u64 L19) hne01)
        have HN1 := hidden (HZ1.out.row L19)
        replace HZ2 := hidden (HZ2.out.rowOther g19 (ints .u64 L19) (Ne.symm hne12))
        replace HZ3 := hidden (HZ3.out.rowOther g19 (ints .u64 L19) (Ne.symm hne13))
        generalize World.setRow U16_1 _ _ = U16_2 at *
        refine anyC_one (i := 18) (by kernel_rfl) rfl (fun K' hK => ?_)
        with_reducible refine fl_skip (w' := U16_2.setRow g20 (ints .u64 L20)) ?_ ?_ ?_
        · rfl
        · exact fl_store 54 _ _ rfl g20 0 (ints .u64 L20) (ints .u64 L20) (by subst hA0; kernel_rfl) (by subst hA0; kernel_rfl) 54 _ HZ2.out.heap HI20.out (by first | (rw [ints_size, ints_size, HZ20.out]; decide) | (rw [ints_size]; decide)) (onek .u64 L20) (patch_all _ _ _ (by rw [HZ20.out]; rfl))
        refine hK.out _ _ (below_setRow HB0.out HG2.out _) (fun _ => trivial) ?_
        clear hK K'
        replace HB0 := hidden (below_setRow HB0.out HG2.out (ints .u64 L20))
        replace HN0 := hidden (HN0.out.rowOther g20 (ints .u64 L20) hne02)
        replace HN1 := hidden (HN1.out.rowOther g20 (ints .u64 L20) hne12)
        have HN2 := hidden (HZ2.out.row L20)
        replace HZ3 := hidden (HZ3.out.rowOther g20 (ints .u64 L20) (Ne.symm hne23))
        generalize World.setRow U16_2 _ _ = U16_3 at *
        refine anyC_one (i := 19) (by kernel_rfl) rfl (fun K' hK => ?_)
        with_reducible refine fl_skip (w' := U16_3.setRow g21 (ints .u64 L21)) ?_ ?_ ?_
        · rfl
        · exact fl_store 54 _ _ rfl g21 0 (ints .u64 L21) (ints .u64 L21) (by subst hA0; kernel_rfl) (by subst hA0; kernel_rfl) 54 _ HZ3.out.heap HI21.out (by first | (rw [ints_size, ints_size, HZ21.out]; decide) | (rw [ints_size]; decide)) (onek .u64 L21) (patch_all _ _ _ (by rw [HZ21.out]; rfl))
        refine hK.out _ _ (below_setRow HB0.out HG3.out _) (fun _ => trivial) ?_
        clear hK K'
        replace HB0 := hidden (below_setRow HB0.out HG3.out (ints .u64 L21))
        replace HN0 := hidden (HN0.out.rowOther g21 (ints .u64 L21) hne03)
        replace HN1 := hidden (HN1.out.rowOther g21 (ints .u64 L21) hne13)
        replace HN2 := hidden (HN2.out.rowOther g21 (ints .u64 L21) hne23)
        have HN3 := hidden (HZ3.out.row L21)
        generalize World.setRow U16_3 _ _ = U16_4 at *
        refine anyC_done (by kernel_rfl) ?_ _
        subst hA0
        have HI_w16 := hidden (HI_w15.out.below HD.out HB0.out)
        have HNB_w16 : Hid (N ≤ U16_4.heap.size) := by have h1 := HNB_w15.out; have h2 := HB0.out.size; show N ≤ _; omega
        have H18_w16 := HN0
        have HGG18 : Hid (N ≤ g18) := by have h1 := HNB_w15.out; have h2 := HG0.out; show N ≤ _; omega
        have H19_w16 := HN1
        have HGG19 : Hid (N ≤ g19) := by have h1 := HNB_w15.out; have h2 := HG1.out; show N ≤ _; omega
        have H20_w16 := HN2
        have HGG20 : Hid (N ≤ g20) := by have h1 := HNB_w15.out; have h2 := HG2.out; show N ≤ _; omega
        have H21_w16 := HN3
        have HGG21 : Hid (N ≤ g21) := by have h1 := HNB_w15.out; have h2 := HG3.out; show N ≤ _; omega
        clear HI_w15 HNB_w15 HB0 HBD hl0 H14_w15 H15_w15 H16_w15 H17_w15 HN0 HZ0 HG0 HN1 HZ1 HG1 HN2 HZ2 HG2 HN3 HZ3 HG3 hne01 hne02 hne12 hne03 hne13 hne23
        generalize U16_4 = w16 at *
        -- statement 17
        go_upto_region 17 with fail
        refine wp_region_lit ?_
        refine wpList_load_row rfl 54 _ rfl g18 (by kernel_rfl) 54 _ (0, 0) _ H18_w16.out.heap Try.underlying54 rfl HI18.out ?_
        refine wpList_load_row rfl 54 _ rfl g19 (by kernel_rfl) 54 _ (0, 0) _ H19_w16.out.heap Try.underlying54 rfl HI19.out ?_
        refine wpList_plain rfl (fun K' hK => ?_)
        have HC17 := hidden (dsub_c L18 L19 HL18.out HL19.out w16)
        rw [HF18.eq, HF19.eq] at HC17
        refine fc_call (f := 24) (args := #[.agg (ints .u64 L18), .agg (ints .u64 L19)]) (by kernel_rfl) HC17.out ?_
        rintro e17 v17 ⟨⟨L22, rfl, hl22, hf22⟩, hb17⟩
        refine hK _ _ ?_
        clear hK K' HC17
        have HL22 := hidden hl22
        have HF22 := Is.mk hf22
        have HI22 := hidden (infoD L22 hl22.len)
        have HZ22 := hidden hl22.len
        have HZZ22 := hidden (zero16 L22 hl22.len)
        have HB17 := hidden hb17
        clear hl22 hf22 hb17
        refine wpList_plain rfl (fun K' hK => ?_)
        refine fc_exec (v := .pointer (some ⟨v17.heap.size, 0, none⟩)) (w' := v17.alloc (.cells (ints .u64 (List.replicate 16 0)) 54)) (by kernel_rfl) (hK _ _ ?_)
        clear hK K'
        refine wpList_store_row rfl 54 _ _ rfl v17.heap.size (ints .u64 L22) (by kernel_rfl) (by kernel_rfl) 54 _ (heap_alloc_new v17 (.cells (ints .u64 (List.replicate 16 0)) 54)) HI22.out HZZ22.out (onek .u64 L22) ?_
        generalize hw17 : World.setRow _ v17.heap.size _ = w17
        have HB0 : Hid (Below w16.heap.size w16 w17) := by rw [← hw17]; exact hidden (below_setRow (HB17.out.alloc HB17.out.size _) HB17.out.size _)
        obtain ⟨g22, hg22⟩ : ∃ g, v17.heap.size = g := ⟨_, rfl⟩
        have H22_w17 : Hid (Wn .u64 w17 g22 54 L22) := by rw [← hw17, ← hg22]; exact hidden ⟨setRow_heap _ _ _ _ _ _ (heap_alloc_new v17 (.cells (ints .u64 (List.replicate 16 0)) 54))⟩
        have HGG22 : Hid (N ≤ g22) := by have h1 := HNB_w16.out; have h2 := HB17.out.size; show N ≤ _; omega
        rw [hg22]
        have HI_w17 := hidden (HI_w16.out.below HD.out HB0.out)
        have HNB_w17 : Hid (N ≤ w17.heap.size) := by have h1 := HNB_w16.out; have h2 := HB0.out.size; show N ≤ _; omega
        refine wpList_nil ?_
        have H18_w17 := hidden (H18_w16.out.below HB0.out)
        have H19_w17 := hidden (H19_w16.out.below HB0.out)
        have H20_w17 := hidden (H20_w16.out.below HB0.out)
        have H21_w17 := hidden (H21_w16.out.below HB0.out)
        clear hw17 hg22 HB17 HB0 HI_w16 HNB_w16 H18_w16 H19_w16 H20_w16 H21_w16
        -- statement 18
        go_upto_region 18 with fail
        have HBD := hidden ((Below.refl w17.heap.size w17).drew)
        refine region_C 8 (fun U => Below w17.heap.size w17 U) (fun _ => True) (by kernel_rfl) HBD.out trivial (fun hS0 _ => ?_)
        refine anyC_take (i := 0) (v := .agg (ints .u64 L20)) rfl rfl (by decide) (by kernel_rfl) (by kernel_rfl) (by kernel_rfl) (fun _ _ _ h => h) (Or.inl ⟨by rfl, ?_⟩) hS0 (fun _ => trivial) ?_
        · rintro w0 hb0
          exact fl_load 54 _ rfl g20 0 (by kernel_rfl) 54 _ _ (0, 0) _ ((H20_w17.out.below hb0)).heap Try.underlying54 rfl HI20.out (fun j v h => part_all _ _ j v h)
        refine anyC_take (i := 1) (v := .agg (ints .u64 L21)) rfl rfl (by decide) (by kernel_rfl) (by kernel_rfl) (by kernel_rfl) (fun _ _ _ h => h) (Or.inl ⟨by rfl, ?_⟩) hS0 (fun _ => trivial) ?_
        · rintro w0 hb0
          exact fl_load 54 _ rfl g21 0 (by kernel_rfl) 54 _ _ (0, 0) _ ((H21_w17.out.below hb0)).heap Try.underlying54 rfl HI21.out (fun j v h => part_all _ _ j v h)
        refine anyC_take (i := 3) (v := .agg (ints .u64 L20)) rfl rfl (by decide) (by kernel_rfl) (by kernel_rfl) (by kernel_rfl) (fun _ _ _ h => h) (Or.inl ⟨by rfl, ?_⟩) hS0 (fun _ => trivial) ?_
        · rintro w0 hb0
          exact fl_load 54 _ rfl g20 0 (by kernel_rfl) 54 _ _ (0, 0) _ ((H20_w17.out.below hb0)).heap Try.underlying54 rfl HI20.out (fun j v h => part_all _ _ j v h)
        refine anyC_take (i := 4) (v := .agg (ints .u64 L21)) rfl rfl (by decide) (by kernel_rfl) (by kernel_rfl) (by kernel_rfl) (fun _ _ _ h => h) (Or.inl ⟨by rfl, ?_⟩) hS0 (fun _ => trivial) ?_
        · rintro w0 hb0
          exact fl_load 54 _ rfl g21 0 (by kernel_rfl) 54 _ _ (0, 0) _ ((H21_w17.out.below hb0)).heap Try.underlying54 rfl HI21.out (fun j v h => part_all _ _ j v h)
        generalize hl0 : Array.setIfInBounds (α := Bool) _ _ _ = l0
        generalize hA0 : Act.put _ _ _ = A0
        refine anyC_run w17 .u64 54 (List.replicate 16 0) 2 2 stR18 (fun v p => ((((A0.put (some 105) (v 0)).put (some 108) (v 1)).put (some 23) (p 0)).put (some 24) (p 1))) (fun k x => if k = 0 then ResD (((xC - xD) * (xA + xB)) + ((xC + xD) * (xA - xB))) x else if k = 1 then ResD (((xC - xD) * (xA + xB)) - ((xC + xD) * (xA - xB))) x else True) [2, 5] [6, 7] (by kernel_rfl) (fun U hb => ⟨hb, trivial⟩) ?_ ?_ ?_ l0 A0 (fun k => if k = 0 then u105 else if k = 1 then u108 else undef) (fun j => if j = 0 then u23 else if j = 1 then u24 else undef) (by rw [← hl0]; kernel_rfl) (by subst hA0; kernel_rfl) w17.drew HBD.out _ (by subst hl0; decide +kernel)
        · intro k v p U hk hr hb Φ h
          have h3 : k = 0 ∨ k = 1 := by omega
          rcases h3 with rfl | rfl
          · refine wpOp_step rfl (fun K' hK => ?_)
            refine fl_call rfl (f := 23) (args := #[.agg (ints .u64 L20), .agg (ints .u64 L21)]) (by subst hA0; kernel_rfl) (dadd_c L20 L21 HL20.out HL21.out U) (fun x U' hx => hK _ _ ?_)
            have e := h x U' (by have hx1 := hx.1; rw [HF20.eq, HF21.eq] at hx1; exact hx1) hx.2
            have e2 : (((((A0.put (some 105) (v 0)).put (some 108) (v 1)).put (some 23) (p 0)).put (some 24) (p 1)).put (some 105) x) = ((((A0.put (some 105) x).put (some 108) (v 1)).put (some 23) (p 0)).put (some 24) (p 1)) := by subst hA0; kernel_rfl
            exact (congrArg (fun a => Φ a U') e2).mpr e
          · refine wpOp_step rfl (fun K' hK => ?_)
            refine fl_call rfl (f := 24) (args := #[.agg (ints .u64 L20), .agg (ints .u64 L21)]) (by subst hA0; kernel_rfl) (dsub_c L20 L21 HL20.out HL21.out U) (fun x U' hx => hK _ _ ?_)
            have e := h x U' (by have hx1 := hx.1; rw [HF20.eq, HF21.eq] at hx1; exact hx1) hx.2
            have e2 : (((((A0.put (some 105) (v 0)).put (some 108) (v 1)).put (some 23) (p 0)).put (some 24) (p 1)).put (some 108) x) = ((((A0.put (some 105) (v 0)).put (some 108) x).put (some 23) (p 0)).put (some 24) (p 1)) := by subst hA0; kernel_rfl
            exact (congrArg (fun a => Φ a U') e2).mpr e
        · intro j v p U hj Φ h
          have h3 : j = 0 ∨ j = 1 := by omega
          rcases h3 with rfl | rfl
          · refine wpOp_step rfl (fun K' hK => ?_)
            refine fl_exec rfl (v := .pointer (some ⟨U.heap.size, 0, none⟩)) (w' := U.alloc (.cells (ints .u64 (List.replicate 16 0)) 54)) (by kernel_rfl) (hK _ _ ?_)
            have e2 : (((((A0.put (some 105) (v 0)).put (some 108) (v 1)).put (some 23) (p 0)).put (some 24) (p 1)).put (some 23) (.pointer (some ⟨U.heap.size, 0, none⟩))) = ((((A0.put (some 105) (v 0)).put (some 108) (v 1)).put (some 23) (.pointer (some ⟨U.heap.size, 0, none⟩))).put (some 24) (p 1)) := by subst hA0; kernel_rfl
            exact (congrArg (fun a => Φ a _) e2).mpr h
          · refine wpOp_step rfl (fun K' hK => ?_)
            refine fl_exec rfl (v := .pointer (some ⟨U.heap.size, 0, none⟩)) (w' := U.alloc (.cells (ints .u64 (List.replicate 16 0)) 54)) (by kernel_rfl) (hK _ _ ?_)
            have e2 : (((((A0.put (some 105) (v 0)).put (some 108) (v 1)).put (some 23) (p 0)).put (some 24) (p 1)).put (some 24) (.pointer (some ⟨U.heap.size, 0, none⟩))) = ((((A0.put (some 105) (v 0)).put (some 108) (v 1)).put (some 23) (p 0)).put (some 24) (.pointer (some ⟨U.heap.size, 0, none⟩))) := by subst hA0; kernel_rfl
            exact (congrArg (fun a => Φ a _) e2).mpr h
        intro v pp U hr hb hp hne n0 hn0
        obtain ⟨L23, e0, hl23, hf23⟩ := hr 0 (by decide)
        have HL23 := hidden hl23
        have HF23 := Is.mk hf23
        have HI23 := hidden (infoD L23 hl23.len)
        have HZ23 := hidden hl23.len
        clear hl23 hf23
        obtain ⟨L24, e1, hl24, hf24⟩ := hr 1 (by decide)
        have HL24 := hidden hl24
        have HF24 := Is.mk hf24
        have HI24 := hidden (infoD L24 hl24.len)
        have HZ24 := hidden hl24.len
        clear hl24 hf24
        obtain ⟨g23, d0, hg0, hz0⟩ := hp 0 (by decide)
        have HZ0 := hidden hz0
        have HG0 := hidden hg0
        obtain ⟨g24, d1, hg1, hz1⟩ := hp 1 (by decide)
        have HZ1 := hidden hz1
        have HG1 := hidden hg1
        have hne01 : g23 ≠ g24 := fun e => hne 0 1 (by decide) (by decide) (by decide) (by rw [d0, d1, e])
        obtain ⟨n0, rfl⟩ : ∃ m, n0 = m + 2 := ⟨n0 - 2, by have : cnt (stR18 2 (bitsOf 2 fun _ => true)) = 2 := (by decide +kernel); omega⟩
        simp only [e0, e1, d0, d1]
        clear hr hp hne hn0 e0 e1 d0 hz0 hg0 d1 hz1 hg1
        have HB0 := hidden hb
        clear hb hS0
        refine anyC_one (i := 8) (by kernel_rfl) rfl (fun K' hK => ?_)
        with_reducible refine fl_skip (w' := U.setRow g23 (ints .u64 L23)) ?_ ?_ ?_
        · rfl
        · exact fl_store 54 _ _ rfl g23 0 (ints .u64 L23) (ints .u64 L23) (by subst hA0; kernel_rfl) (by subst hA0; kernel_rfl) 54 _ HZ0.out.heap HI23.out (by first | (rw [ints_size, ints_size, HZ23.out]; decide) | (rw [ints_size]; decide)) (onek .u64 L23) (patch_all _ _ _ (by rw [HZ23.out]; rfl))
        refine hK.out _ _ (below_setRow HB0.out HG0.out _) (fun _ => trivial) ?_
        clear hK K'
        replace HB0 := hidden (below_setRow HB0.out HG0.out (ints .u64 L23))
        have HN0 := hidden (HZ0.out.row L23)
        replace HZ1 := hidden (HZ1.out.rowOther g23 (ints .u64 L23) (Ne.symm hne01))
        generalize World.setRow U _ _ = U18_1 at *
        refine anyC_one (i := 9) (by kernel_rfl) rfl (fun K' hK => ?_)
        with_reducible refine fl_skip (w' := U18_1.setRow g24 (ints .u64 L24)) ?_ ?_ ?_
        · rfl
        · exact fl_store 54 _ _ rfl g24 0 (ints .u64 L24) (ints .u64 L24) (by subst hA0; kernel_rfl) (by subst hA0; kernel_rfl) 54 _ HZ1.out.heap HI24.out (by first | (rw [ints_size, ints_size, HZ24.out]; decide) | (rw [ints_size]; decide)) (onek .u64 L24) (patch_all _ _ _ (by rw [HZ24.out]; rfl))
        refine hK.out _ _ (below_setRow HB0.out HG1.out _) (fun _ => trivial) ?_
        clear hK K'
        replace HB0 := hidden (below_setRow HB0.out HG1.out (ints .u64 L24))
        replace HN0 := hidden (HN0.out.rowOther g24 (ints .u64 L24) hne01)
        have HN1 := hidden (HZ1.out.row L24)
        generalize World.setRow U18_1 _ _ = U18_2 at *
        refine anyC_done (by kernel_rfl) ?_ _
        subst hA0
        have HI_w18 := hidden (HI_w17.out.below HD.out HB0.out)
        have HNB_w18 : Hid (N ≤ U18_2.heap.size) := by have h1 := HNB_w17.out; have h2 := HB0.out.size; show N ≤ _; omega
        have H18_w18 := hidden (H18_w17.out.below HB0.out)
        have H19_w18 := hidden (H19_w17.out.below HB0.out)
        have H22_w18 := hidden (H22_w17.out.below HB0.out)
        have H23_w18 := HN0
        have HGG23 : Hid (N ≤ g23) := by have h1 := HNB_w17.out; have h2 := HG0.out; show N ≤ _; omega
        have H24_w18 := HN1
        have HGG24 : Hid (N ≤ g24) := by have h1 := HNB_w17.out; have h2 := HG1.out; show N ≤ _; omega
        clear HI_w17 HNB_w17 HB0 HBD hl0 H18_w17 H19_w17 H22_w17 H20_w17 H21_w17 HN0 HZ0 HG0 HN1 HZ1 HG1 hne01
        generalize U18_2 = w18 at *
        -- statement 19
        go_upto_region 19 with fail
        have HLT8 : Hid (g8 < N) := HLN8
        have HLT9 : Hid (g9 < N) := HLN9
        have HLT10 : Hid (g10 < N) := HLN10
        have HLT11 : Hid (g11 < N) := HLN11
        have HBB_V0 := hidden ((Below.refl w18.heap.size w18).drew)
        have HS_V0 := hidden (⟨H23_w18.out.drew, H24_w18.out.drew, H18_w18.out.drew, H19_w18.out.drew, H22_w18.out.drew, HI_w18.out.h7.drew⟩ : Wn .u64 w18.drew g23 54 L23 ∧ Wn .u64 w18.drew g24 54 L24 ∧ Wn .u64 w18.drew g18 54 L18 ∧ Wn .u64 w18.drew g19 54 L19 ∧ Wn .u64 w18.drew g22 54 L22 ∧ Wn .u64 w18.drew m 54 LU)
        refine region_C 8 (fun U => Wn .u64 U g23 54 L23 ∧ Wn .u64 U g24 54 L24 ∧ Wn .u64 U g18 54 L18 ∧ Wn .u64 U g19 54 L19 ∧ Wn .u64 U g22 54 L22 ∧ Wn .u64 U m 54 LU) (fun _ => True) (by kernel_rfl) HS_V0.out trivial (fun hS0 _ => ?_)
        refine anyC_take (i := 0) (v := .agg (ints .u64 L23)) rfl rfl (by decide) (by kernel_rfl) (by kernel_rfl) (by kernel_rfl) (fun _ _ _ h => h) (Or.inl ⟨by rfl, ?_⟩) hS0 (fun _ => trivial) ?_
        · rintro w0 hq0
          exact fl_load 54 _ rfl g23 0 (by kernel_rfl) 54 _ _ (0, 0) _ (hq0.1).heap Try.underlying54 rfl HI23.out (fun j v h => part_all _ _ j v h)
        refine anyC_take (i := 1) (v := .agg (ints .u64 L23)) rfl rfl (by decide) (by kernel_rfl) (by kernel_rfl) (by kernel_rfl) (fun _ _ _ h => h) (Or.inl ⟨by rfl, ?_⟩) hS0 (fun _ => trivial) ?_
        · rintro w0 hq0
          exact fl_load 54 _ rfl g23 0 (by kernel_rfl) 54 _ _ (0, 0) _ (hq0.1).heap Try.underlying54 rfl HI23.out (fun j v h => part_all _ _ j v h)
        refine anyC_take (i := 3) (v := .agg (ints .u64 LU)) rfl rfl (by decide) (by kernel_rfl) (by kernel_rfl) (by kernel_rfl) (fun _ _ _ h => h) (Or.inl ⟨by rfl, ?_⟩) hS0 (fun _ => trivial) ?_
        · rintro w0 hq0
          exact fl_load 54 _ rfl m 0 (by kernel_rfl) 54 _ _ (0, 0) _ (hq0.2.2.2.2.2).heap Try.underlying54 rfl HIU.out (fun j v h => part_all _ _ j v h)
        refine anyC_take (i := 4) (v := .agg (ints .u64 L24)) rfl rfl (by decide) (by kernel_rfl) (by kernel_rfl) (by kernel_rfl) (fun _ _ _ h => h) (Or.inl ⟨by rfl, ?_⟩) hS0 (fun _ => trivial) ?_
        · rintro w0 hq0
          exact fl_load 54 _ rfl g24 0 (by kernel_rfl) 54 _ _ (0, 0) _ (hq0.2.1).heap Try.underlying54 rfl HI24.out (fun j v h => part_all _ _ j v h)
        refine anyC_take (i := 5) (v := .agg (ints .u64 L24)) rfl rfl (by decide) (by kernel_rfl) (by kernel_rfl) (by kernel_rfl) (fun _ _ _ h => h) (Or.inl ⟨by rfl, ?_⟩) hS0 (fun _ => trivial) ?_
        · rintro w0 hq0
          exact fl_load 54 _ rfl g24 0 (by kernel_rfl) 54 _ _ (0, 0) _ (hq0.2.1).heap Try.underlying54 rfl HI24.out (fun j v h => part_all _ _ j v h)
        have HR_V0 := hidden (HI_w18.out.below HD.out HBB_V0.out)
        clear hS0
        clear HR_V0
        obtain ⟨V0, hV0⟩ : ∃ V, V = w18.drew := ⟨_, rfl⟩
        rw [← hV0] at HBB_V0 HS_V0 ⊢
        clear hV0
        refine anyC_one (i := 2) (by kernel_rfl) rfl (fun K' hK => ?_)
        refine fl_call rfl (f := 25) (args := #[.agg (ints .u64 L23), .agg (ints .u64 L23)]) (by kernel_rfl) (dmul_c L23 L23 HL23.out HL23.out V0) ?_
        rintro x111 V1 ⟨⟨L111, rfl, hl111, hf111⟩, hbb⟩
        have HL111 := hidden hl111
        rw [HF23.eq] at hf111
        have HF111 : Is (fd L111) ((((xC - xD) * (xA + xB)) + ((xC + xD) * (xA - xB))) * (((xC - xD) * (xA + xB)) + ((xC + xD) * (xA - xB)))) := Is.mk hf111
        have HI111 := hidden (infoD L111 hl111.len)
        have HZ111 := hidden hl111.len
        have HBB_V1 := hidden (HBB_V0.out.trans (hbb.mono HBB_V0.out.size))
        have HS_V1 := hidden (⟨HS_V0.out.1.below hbb, HS_V0.out.2.1.below hbb, HS_V0.out.2.2.1.below hbb, HS_V0.out.2.2.2.1.below hbb, HS_V0.out.2.2.2.2.1.below hbb, HS_V0.out.2.2.2.2.2.below hbb⟩ : Wn .u64 V1 g23 54 L23 ∧ Wn .u64 V1 g24 54 L24 ∧ Wn .u64 V1 g18 54 L18 ∧ Wn .u64 V1 g19 54 L19 ∧ Wn .u64 V1 g22 54 L22 ∧ Wn .u64 V1 m 54 LU)
        refine hK.out _ _ HS_V1.out (fun _ => trivial) ?_
        clear hK K' hl111 hf111 hbb HBB_V0 HS_V0
        refine anyC_one (i := 6) (by kernel_rfl) rfl (fun K' hK => ?_)
        refine fl_call rfl (f := 25) (args := #[.agg (ints .u64 L24), .agg (ints .u64 L24)]) (by kernel_rfl) (dmul_c L24 L24 HL24.out HL24.out V1) ?_
        rintro x115 V2 ⟨⟨L115, rfl, hl115, hf115⟩, hbb⟩
        have HL115 := hidden hl115
        rw [HF24.eq] at hf115
        have HF115 : Is (fd L115) ((((xC - xD) * (xA + xB)) - ((xC + xD) * (xA - xB))) * (((xC - xD) * (xA + xB)) - ((xC + xD) * (xA - xB)))) := Is.mk hf115
        have HI115 := hidden (infoD L115 hl115.len)
        have HZ115 := hidden hl115.len
        have HBB_V2 := hidden (HBB_V1.out.trans (hbb.mono HBB_V1.out.size))
        have HS_V2 := hidden (⟨HS_V1.out.1.below hbb, HS_V1.out.2.1.below hbb, HS_V1.out.2.2.1.below hbb, HS_V1.out.2.2.2.1.below hbb, HS_V1.out.2.2.2.2.1.below hbb, HS_V1.out.2.2.2.2.2.below hbb⟩ : Wn .u64 V2 g23 54 L23 ∧ Wn .u64 V2 g24 54 L24 ∧ Wn .u64 V2 g18 54 L18 ∧ Wn .u64 V2 g19 54 L19 ∧ Wn .u64 V2 g22 54 L22 ∧ Wn .u64 V2 m 54 LU)
        refine hK.out _ _ HS_V2.out (fun _ => trivial) ?_
        clear hK K' hl115 hf115 hbb HBB_V1 HS_V1
        refine anyC_one (i := 7) (by kernel_rfl) rfl (fun K' hK => ?_)
        refine fl_call rfl (f := 25) (args := #[.agg (ints .u64 LU), .agg (ints .u64 L115)]) (by kernel_rfl) (dmul_c LU L115 HLU.out HL115.out V2) ?_
        rintro x116 V3 ⟨⟨L116, rfl, hl116, hf116⟩, hbb⟩
        have HL116 := hidden hl116
        rw [HFU.eq, HF115.eq] at hf116
        have HF116 : Is (fd L116) (u * ((((xC - xD) * (xA + xB)) - ((xC + xD) * (xA - xB))) * (((xC - xD) * (xA + xB)) - ((xC + xD) * (xA - xB))))) := Is.mk hf116
        have HI116 := hidden (infoD L116 hl116.len)
        have HZ116 := hidden hl116.len
        have HBB_V3 := hidden (HBB_V2.out.trans (hbb.mono HBB_V2.out.size))
        have HS_V3 := hidden (⟨HS_V2.out.1.below hbb, HS_V2.out.2.1.below hbb, HS_V2.out.2.2.1.below hbb, HS_V2.out.2.2.2.1.below hbb, HS_V2.out.2.2.2.2.1.below hbb, HS_V2.out.2.2.2.2.2.below hbb⟩ : Wn .u64 V3 g23 54 L23 ∧ Wn .u64 V3 g24 54 L24 ∧ Wn .u64 V3 g18 54 L18 ∧ Wn .u64 V3 g19 54 L19 ∧ Wn .u64 V3 g22 54 L22 ∧ Wn .u64 V3 m 54 LU)
        refine hK.out _ _ HS_V3.out (fun _ => trivial) ?_
        clear hK K' hl116 hf116 hbb HBB_V2 HS_V2
        have HR_V3 := hidden (HI_w18.out.below HD.out HBB_V3.out)
        refine anyC_one (i := 8) (by kernel_rfl) rfl (fun K' hK => ?_)
        with_reducible refine fl_skip (w' := V3.setRow g10 (ints .u64 L111)) ?_ ?_ ?_
        · rfl
        · exact fl_store 54 _ _ rfl g10 0 (ints .u64 L111) (ints .u64 L111) (by kernel_rfl) (by kernel_rfl) 54 _ HR_V3.out.h10.heap HI111.out (by rw [ints_size, ints_size, HZ111.out, HL10.out.len]; decide) (onek .u64 L111) (patch_all _ _ _ (by rw [HZ111.out, HL10.out.len]))
        have HS_V4 := hidden (⟨HS_V3.out.1.rowOther _ _ (by have h1 := HGG23.out; have h2 := HLT10.out; omega), HS_V3.out.2.1.rowOther _ _ (by have h1 := HGG24.out; have h2 := HLT10.out; omega), HS_V3.out.2.2.1.rowOther _ _ (by have h1 := HGG18.out; have h2 := HLT10.out; omega), HS_V3.out.2.2.2.1.rowOther _ _ (by have h1 := HGG19.out; have h2 := HLT10.out; omega), HS_V3.out.2.2.2.2.1.rowOther _ _ (by have h1 := HGG22.out; have h2 := HLT10.out; omega), HS_V3.out.2.2.2.2.2.rowOther _ _ (HD.out.u10)⟩ : Wn .u64 (V3.setRow g10 (ints .u64 L111)) g23 54 L23 ∧ Wn .u64 (V3.setRow g10 (ints .u64 L111)) g24 54 L24 ∧ Wn .u64 (V3.setRow g10 (ints .u64 L111)) g18 54 L18 ∧ Wn .u64 (V3.setRow g10 (ints .u64 L111)) g19 54 L19 ∧ Wn .u64 (V3.setRow g10 (ints .u64 L111)) g22 54 L22 ∧ Wn .u64 (V3.setRow g10 (ints .u64 L111)) m 54 LU)
        refine hK.out _ _ HS_V4.out (fun _ => trivial) ?_
        clear hK K'
        have HR_V4 := hidden (HR_V3.out.set10 HD.out L111)
        clear HR_V3 HS_V3
        generalize World.setRow V3 g10 _ = V4 at *
        refine anyC_one (i := 9) (by kernel_rfl) rfl (fun K' hK => ?_)
        with_reducible refine fl_skip (w' := V4.setRow g11 (ints .u64 L116)) ?_ ?_ ?_
        · rfl
        · exact fl_store 54 _ _ rfl g11 0 (ints .u64 L116) (ints .u64 L116) (by kernel_rfl) (by kernel_rfl) 54 _ HR_V4.out.h11.heap HI116.out (by rw [ints_size, ints_size, HZ116.out, HL11.out.len]; decide) (onek .u64 L116) (patch_all _ _ _ (by rw [HZ116.out, HL11.out.len]))
        have HS_V5 := hidden (⟨HS_V4.out.1.rowOther _ _ (by have h1 := HGG23.out; have h2 := HLT11.out; omega), HS_V4.out.2.1.rowOther _ _ (by have h1 := HGG24.out; have h2 := HLT11.out; omega), HS_V4.out.2.2.1.rowOther _ _ (by have h1 := HGG18.out; have h2 := HLT11.out; omega), HS_V4.out.2.2.2.1.rowOther _ _ (by have h1 := HGG19.out; have h2 := HLT11.out; omega), HS_V4.out.2.2.2.2.1.rowOther _ _ (by have h1 := HGG22.out; have h2 := HLT11.out; omega), HS_V4.out.2.2.2.2.2.rowOther _ _ (HD.out.u11)⟩ : Wn .u64 (V4.setRow g11 (ints .u64 L116)) g23 54 L23 ∧ Wn .u64 (V4.setRow g11 (ints .u64 L116)) g24 54 L24 ∧ Wn .u64 (V4.setRow g11 (ints .u64 L116)) g18 54 L18 ∧ Wn .u64 (V4.setRow g11 (ints .u64 L116)) g19 54 L19 ∧ Wn .u64 (V4.setRow g11 (ints .u64 L116)) g22 54 L22 ∧ Wn .u64 (V4.setRow g11 (ints .u64 L116)) m 54 LU)
        refine hK.out _ _ HS_V5.out (fun _ => trivial) ?_
        clear hK K'
        have HR_V5 := hidden (HR_V4.out.set11 HD.out L116)
        clear HR_V4 HS_V4
        generalize World.setRow V4 g11 _ = V5 at *
        refine anyC_done (by kernel_rfl) ?_ _
        clear HI_w18 HNB_w18 HBB_V3 H23_w18 H24_w18 H18_w18 H19_w18 H22_w18
        generalize V5 = w19 at *
        -- statement 20
        go_upto_region 20 with fail
        have HBB_V0 := hidden ((Below.refl w19.heap.size w19).drew)
        have HS_V0 := hidden (⟨HS_V5.out.2.2.1.drew, HS_V5.out.2.2.2.1.drew, HS_V5.out.2.2.2.2.1.drew⟩ : Wn .u64 w19.drew g18 54 L18 ∧ Wn .u64 w19.drew g19 54 L19 ∧ Wn .u64 w19.drew g22 54 L22)
        refine region_C 9 (fun U => Wn .u64 U g18 54 L18 ∧ Wn .u64 U g19 54 L19 ∧ Wn .u64 U g22 54 L22) (fun _ => True) (by kernel_rfl) HS_V0.out trivial (fun hS0 _ => ?_)
        refine anyC_take (i := 0) (v := .agg (ints .u64 L18)) rfl rfl (by decide) (by kernel_rfl) (by kernel_rfl) (by kernel_rfl) (fun _ _ _ h => h) (Or.inl ⟨by rfl, ?_⟩) hS0 (fun _ => trivial) ?_
        · rintro w0 hq0
          exact fl_load 54 _ rfl g18 0 (by kernel_rfl) 54 _ _ (0, 0) _ (hq0.1).heap Try.underlying54 rfl HI18.out (fun j v h => part_all _ _ j v h)
        refine anyC_take (i := 1) (v := .agg (ints .u64 L19)) rfl rfl (by decide) (by kernel_rfl) (by kernel_rfl) (by kernel_rfl) (fun _ _ _ h => h) (Or.inl ⟨by rfl, ?_⟩) hS0 (fun _ => trivial) ?_
        · rintro w0 hq0
          exact fl_load 54 _ rfl g19 0 (by kernel_rfl) 54 _ _ (0, 0) _ (hq0.2.1).heap Try.underlying54 rfl HI19.out (fun j v h => part_all _ _ j v h)
        refine anyC_take (i := 3) (v := .agg (ints .u64 L22)) rfl rfl (by decide) (by kernel_rfl) (by kernel_rfl) (by kernel_rfl) (fun _ _ _ h => h) (Or.inl ⟨by rfl, ?_⟩) hS0 (fun _ => trivial) ?_
        · rintro w0 hq0
          exact fl_load 54 _ rfl g22 0 (by kernel_rfl) 54 _ _ (0, 0) _ (hq0.2.2).heap Try.underlying54 rfl HI22.out (fun j v h => part_all _ _ j v h)
        refine anyC_take (i := 4) (v := .agg (ints .u64 L18)) rfl rfl (by decide) (by kernel_rfl) (by kernel_rfl) (by kernel_rfl) (fun _ _ _ h => h) (Or.inl ⟨by rfl, ?_⟩) hS0 (fun _ => trivial) ?_
        · rintro w0 hq0
          exact fl_load 54 _ rfl g18 0 (by kernel_rfl) 54 _ _ (0, 0) _ (hq0.1).heap Try.underlying54 rfl HI18.out (fun j v h => part_all _ _ j v h)
        refine anyC_take (i := 5) (v := .agg (ints .u64 L22)) rfl rfl (by decide) (by kernel_rfl) (by kernel_rfl) (by kernel_rfl) (fun _ _ _ h => h) (Or.inl ⟨by rfl, ?_⟩) hS0 (fun _ => trivial) ?_
        · rintro w0 hq0
          exact fl_load 54 _ rfl g22 0 (by kernel_rfl) 54 _ _ (0, 0) _ (hq0.2.2).heap Try.underlying54 rfl HI22.out (fun j v h => part_all _ _ j v h)
        have HX_w19 := HR_V5
        clear HR_V5 HS_V5
        clear hS0
        obtain ⟨V0, hV0⟩ : ∃ V, V = w19.drew := ⟨_, rfl⟩
        rw [← hV0] at HBB_V0 HS_V0 ⊢
        clear hV0
        refine anyC_one (i := 2) (by kernel_rfl) rfl (fun K' hK => ?_)
        refine fl_call rfl (f := 25) (args := #[.agg (ints .u64 L18), .agg (ints .u64 L19)]) (by kernel_rfl) (dmul_c L18 L19 HL18.out HL19.out V0) ?_
        rintro x119 V1 ⟨⟨L119, rfl, hl119, hf119⟩, hbb⟩
        have HL119 := hidden hl119
        rw [HF18.eq, HF19.eq] at hf119
        have HF119 : Is (fd L119) (((xA + xB) * (xA + xB)) * ((xA - xB) * (xA - xB))) := Is.mk hf119
        have HI119 := hidden (infoD L119 hl119.len)
        have HZ119 := hidden hl119.len
        have HBB_V1 := hidden (HBB_V0.out.trans (hbb.mono HBB_V0.out.size))
        have HS_V1 := hidden (⟨HS_V0.out.1.below hbb, HS_V0.out.2.1.below hbb, HS_V0.out.2.2.below hbb⟩ : Wn .u64 V1 g18 54 L18 ∧ Wn .u64 V1 g19 54 L19 ∧ Wn .u64 V1 g22 54 L22)
        refine hK.out _ _ HS_V1.out (fun _ => trivial) ?_
        clear hK K' hl119 hf119 hbb HBB_V0 HS_V0
        refine anyC_one (i := 6) (by kernel_rfl) rfl (fun K' hK => ?_)
        refine fl_call rfl (f := 26) (args := #[.agg (ints .u64 L22), .int .u64 121665]) (by kernel_rfl) (dsmall_c L22 HL22.out V1) ?_
        rintro x123 V2 ⟨⟨L123, rfl, hl123, hf123⟩, hbb⟩
        have HL123 := hidden hl123
        rw [HF22.eq] at hf123
        have HF123 : Is (fd L123) (121665 * (((xA + xB) * (xA + xB)) - ((xA - xB) * (xA - xB)))) := Is.mk hf123
        have HI123 := hidden (infoD L123 hl123.len)
        have HZ123 := hidden hl123.len
        have HBB_V2 := hidden (HBB_V1.out.trans (hbb.mono HBB_V1.out.size))
        have HS_V2 := hidden (⟨HS_V1.out.1.below hbb, HS_V1.out.2.1.below hbb, HS_V1.out.2.2.below hbb⟩ : Wn .u64 V2 g18 54 L18 ∧ Wn .u64 V2 g19 54 L19 ∧ Wn .u64 V2 g22 54 L22)
        refine hK.out _ _ HS_V2.out (fun _ => trivial) ?_
        clear hK K' hl123 hf123 hbb HBB_V1 HS_V1
        refine anyC_one (i := 7) (by kernel_rfl) rfl (fun K' hK => ?_)
        refine fl_call rfl (f := 23) (args := #[.agg (ints .u64 L18), .agg (ints .u64 L123)]) (by kernel_rfl) (dadd_c L18 L123 HL18.out HL123.out V2) ?_
        rintro x124 V3 ⟨⟨L124, rfl, hl124, hf124⟩, hbb⟩
        have HL124 := hidden hl124
        rw [HF18.eq, HF123.eq] at hf124
        have HF124 : Is (fd L124) (((xA + xB) * (xA + xB)) + 121665 * (((xA + xB) * (xA + xB)) - ((xA - xB) * (xA - xB)))) := Is.mk hf124
        have HI124 := hidden (infoD L124 hl124.len)
        have HZ124 := hidden hl124.len
        have HBB_V3 := hidden (HBB_V2.out.trans (hbb.mono HBB_V2.out.size))
        have HS_V3 := hidden (⟨HS_V2.out.1.below hbb, HS_V2.out.2.1.below hbb, HS_V2.out.2.2.below hbb⟩ : Wn .u64 V3 g18 54 L18 ∧ Wn .u64 V3 g19 54 L19 ∧ Wn .u64 V3 g22 54 L22)
        refine hK.out _ _ HS_V3.out (fun _ => trivial) ?_
        clear hK K' hl124 hf124 hbb HBB_V2 HS_V2
        refine anyC_one (i := 8) (by kernel_rfl) rfl (fun K' hK => ?_)
        refine fl_call rfl (f := 25) (args := #[.agg (ints .u64 L22), .agg (ints .u64 L124)]) (by kernel_rfl) (dmul_c L22 L124 HL22.out HL124.out V3) ?_
        rintro x125 V4 ⟨⟨L125, rfl, hl125, hf125⟩, hbb⟩
        have HL125 := hidden hl125
        rw [HF22.eq, HF124.eq] at hf125
        have HF125 : Is (fd L125) ((((xA + xB) * (xA + xB)) - ((xA - xB) * (xA - xB))) * (((xA + xB) * (xA + xB)) + 121665 * (((xA + xB) * (xA + xB)) - ((xA - xB) * (xA - xB))))) := Is.mk hf125
        have HI125 := hidden (infoD L125 hl125.len)
        have HZ125 := hidden hl125.len
        have HBB_V4 := hidden (HBB_V3.out.trans (hbb.mono HBB_V3.out.size))
        have HS_V4 := hidden (⟨HS_V3.out.1.below hbb, HS_V3.out.2.1.below hbb, HS_V3.out.2.2.below hbb⟩ : Wn .u64 V4 g18 54 L18 ∧ Wn .u64 V4 g19 54 L19 ∧ Wn .u64 V4 g22 54 L22)
        refine hK.out _ _ HS_V4.out (fun _ => trivial) ?_
        clear hK K' hl125 hf125 hbb HBB_V3 HS_V3
        have HR_V4 := hidden (HX_w19.out.below HD.out HBB_V4.out)
        refine anyC_one (i := 9) (by kernel_rfl) rfl (fun K' hK => ?_)
        with_reducible refine fl_skip (w' := V4.setRow g8 (ints .u64 L119)) ?_ ?_ ?_
        · rfl
        · exact fl_store 54 _ _ rfl g8 0 (ints .u64 L119) (ints .u64 L119) (by kernel_rfl) (by kernel_rfl) 54 _ HR_V4.out.h8.heap HI119.out (by rw [ints_size, ints_size, HZ119.out, HL8.out.len]; decide) (onek .u64 L119) (patch_all _ _ _ (by rw [HZ119.out, HL8.out.len]))
        have HS_V5 := hidden (⟨HS_V4.out.1.rowOther _ _ (by have h1 := HGG18.out; have h2 := HLT8.out; omega), HS_V4.out.2.1.rowOther _ _ (by have h1 := HGG19.out; have h2 := HLT8.out; omega), HS_V4.out.2.2.rowOther _ _ (by have h1 := HGG22.out; have h2 := HLT8.out; omega)⟩ : Wn .u64 (V4.setRow g8 (ints .u64 L119)) g18 54 L18 ∧ Wn .u64 (V4.setRow g8 (ints .u64 L119)) g19 54 L19 ∧ Wn .u64 (V4.setRow g8 (ints .u64 L119)) g22 54 L22)
        refine hK.out _ _ HS_V5.out (fun _ => trivial) ?_
        clear hK K'
        have HR_V5 := hidden (HR_V4.out.set8 HD.out L119)
        clear HR_V4 HS_V4
        generalize World.setRow V4 g8 _ = V5 at *
        refine anyC_one (i := 10) (by kernel_rfl) rfl (fun K' hK => ?_)
        with_reducible refine fl_skip (w' := V5.setRow g9 (ints .u64 L125)) ?_ ?_ ?_
        · rfl
        · exact fl_store 54 _ _ rfl g9 0 (ints .u64 L125) (ints .u64 L125) (by kernel_rfl) (by kernel_rfl) 54 _ HR_V5.out.h9.heap HI125.out (by rw [ints_size, ints_size, HZ125.out, HL9.out.len]; decide) (onek .u64 L125) (patch_all _ _ _ (by rw [HZ125.out, HL9.out.len]))
        have HS_V6 := hidden (⟨HS_V5.out.1.rowOther _ _ (by have h1 := HGG18.out; have h2 := HLT9.out; omega), HS_V5.out.2.1.rowOther _ _ (by have h1 := HGG19.out; have h2 := HLT9.out; omega), HS_V5.out.2.2.rowOther _ _ (by have h1 := HGG22.out; have h2 := HLT9.out; omega)⟩ : Wn .u64 (V5.setRow g9 (ints .u64 L125)) g18 54 L18 ∧ Wn .u64 (V5.setRow g9 (ints .u64 L125)) g19 54 L19 ∧ Wn .u64 (V5.setRow g9 (ints .u64 L125)) g22 54 L22)
        refine hK.out _ _ HS_V6.out (fun _ => trivial) ?_
        clear hK K'
        have HR_V6 := hidden (HR_V5.out.set9 HD.out L125)
        clear HR_V5 HS_V5
        generalize World.setRow V5 g9 _ = V6 at *
        refine anyC_done (by kernel_rfl) ?_ _
        clear HX_w19 HBB_V4 HS_V6
        generalize V6 = w20 at *
        have HLS3 : Hid (LR (lstp u S2) L119 L125 L111 L116) := by
          obtain ⟨e1, e2, e3, e4⟩ := HXS.out
          exact ⟨HL119.out, HL125.out, HL111.out, HL116.out, by rw [HF119.eq, ← e1, ← e2]; rfl, by rw [HF125.eq, ← e1, ← e2]; rfl, by rw [HF111.eq, ← e1, ← e2, ← e3, ← e4]; rfl, by rw [HF116.eq, ← e1, ← e2, ← e3, ← e4]; rfl⟩
        have HI_w20 := HR_V6
        clear HR_V6 HXS
        go_upto_if 126 with fail
        rcases HTB.out with ⟨hT, hb⟩ | ⟨hT, hb⟩
        · subst hb
          go_wp2
          go_roundw
          case rel => exact ⟨r + 1, _, _, _, _, by omega, by have := HJ.out; go_num, by rw [HLAD.eq, hT]; have h := HLS3.out.swp0; rw [HS2.eq, hT] at h; exact h, HI_w20.out⟩
          case measure => have := HJ.out; simp [intOf] <;> omega
        · subst hb
          go_upto_region 22 with fail
          refine wp_region_lit ?_
          refine wpList_load_row rfl 54 _ rfl g10 (by kernel_rfl) 54 _ (0, 0) _ HI_w20.out.h10.heap Try.underlying54 rfl HI111.out ?_
          refine wpList_load_row rfl 54 _ rfl g8 (by kernel_rfl) 54 _ (0, 0) _ HI_w20.out.h8.heap Try.underlying54 rfl HI119.out ?_
          refine wpList_store_row rfl 54 _ _ rfl g8 (ints .u64 L111) (by kernel_rfl) (by kernel_rfl) 54 _ HI_w20.out.h8.heap HI111.out (by rw [ints_size, ints_size, HLS3.out.la.len, HLS3.out.lc.len]) (onek .u64 L111) ?_
          have HIe1 := hidden (HI_w20.out.set8 HD.out L111)
          clear HI_w20
          generalize World.setRow w20 g8 _ = y1 at *
          refine wpList_store_row rfl 54 _ _ rfl g10 (ints .u64 L119) (by kernel_rfl) (by kernel_rfl) 54 _ HIe1.out.h10.heap HI119.out (by rw [ints_size, ints_size, HLS3.out.lc.len, HLS3.out.la.len]) (onek .u64 L119) ?_
          have HIe2 := hidden (HIe1.out.set10 HD.out L119)
          clear HIe1
          generalize World.setRow y1 g10 _ = y2 at *
          refine wpList_nil ?_
          go_upto_region 23 with fail
          refine wp_region_lit ?_
          refine wpList_load_row rfl 54 _ rfl g11 (by kernel_rfl) 54 _ (0, 0) _ HIe2.out.h11.heap Try.underlying54 rfl HI116.out ?_
          refine wpList_load_row rfl 54 _ rfl g9 (by kernel_rfl) 54 _ (0, 0) _ HIe2.out.h9.heap Try.underlying54 rfl HI125.out ?_
          refine wpList_store_row rfl 54 _ _ rfl g9 (ints .u64 L116) (by kernel_rfl) (by kernel_rfl) 54 _ HIe2.out.h9.heap HI116.out (by rw [ints_size, ints_size, HLS3.out.lb.len, HLS3.out.ld.len]) (onek .u64 L116) ?_
          have HIe3 := hidden (HIe2.out.set9 HD.out L116)
          clear HIe2
          generalize World.setRow y2 g9 _ = y3 at *
          refine wpList_store_row rfl 54 _ _ rfl g11 (ints .u64 L125) (by kernel_rfl) (by kernel_rfl) 54 _ HIe3.out.h11.heap HI125.out (by rw [ints_size, ints_size, HLS3.out.ld.len, HLS3.out.lb.len]) (onek .u64 L125) ?_
          have HIe4 := hidden (HIe3.out.set11 HD.out L125)
          clear HIe3
          generalize World.setRow y3 g11 _ = y4 at *
          refine wpList_nil ?_
          go_wp2
          go_roundw
          case rel => exact ⟨r + 1, _, _, _, _, by omega, by have := HJ.out; go_num, by rw [HLAD.eq, hT]; have h := HLS3.out.swp1; rw [HS2.eq, hT] at h; exact h, HIe4.out⟩
          case measure => have := HJ.out; simp [intOf] <;> omega
    · have HTAIL := hidden True.intro
      have hre : r = 255 := by omega
      have b0 : ¬ (0 : Int) ≤ 254 - (r : Int) := by omega
      have HLR2 : Hid (LR (lad u k 255) A B C D) := by rw [← hre]; exact HLR
      clear HLR hre HKC HKR
      go_upto_region 24 with fail
      obtain ⟨xA, hxA⟩ : ∃ x, fd A = x := ⟨_, rfl⟩
      obtain ⟨xB, hxB⟩ : ∃ x, fd B = x := ⟨_, rfl⟩
      have HEND : Is ((xA * kinv xB).val : Int) V := ⟨by rw [← HVE.eq, ← hxA, ← hxB, HLR2.out.fa, HLR2.out.fb]; rfl⟩
      have HFA := Is.mk hxA
      have HFB := Is.mk hxB
      have HLA := hidden HLR2.out.la
      have HLB := hidden HLR2.out.lb
      clear hxA hxB HLR2 HVE
      have HBD := hidden ((Below.refl wr.heap.size wr).drew)
      refine region_C 6 (fun U => Below wr.heap.size wr U) (fun _ => True) (by kernel_rfl) HBD.out trivial (fun hS0 _ => ?_)
      refine anyC_take (i := 0) (v := .agg (ints .u64 A)) rfl rfl (by decide) (by kernel_rfl) (by kernel_rfl) (by kernel_rfl) (fun _ _ _ h => h) (Or.inl ⟨by rfl, ?_⟩) hS0 (fun _ => trivial) ?_
      · rintro w0 hb0
        exact fl_load 54 _ rfl g8 0 (by kernel_rfl) 54 _ _ (0, 0) _ ((HI1.out.h8.below hb0)).heap Try.underlying54 rfl HIA.out (fun j v h => part_all _ _ j v h)
      refine anyC_take (i := 1) (v := .agg (ints .u64 B)) rfl rfl (by decide) (by kernel_rfl) (by kernel_rfl) (by kernel_rfl) (fun _ _ _ h => h) (Or.inl ⟨by rfl, ?_⟩) hS0 (fun _ => trivial) ?_
      · rintro w0 hb0
        exact fl_load 54 _ rfl g9 0 (by kernel_rfl) 54 _ _ (0, 0) _ ((HI1.out.h9.below hb0)).heap Try.underlying54 rfl HIB.out (fun j v h => part_all _ _ j v h)
      generalize hl0 : Array.setIfInBounds (α := Bool) _ _ _ = l0
      generalize hA0 : Act.put _ _ _ = A0
      refine anyC_run wr .u64 54 (List.replicate 16 0) 3 1 stR24 (fun v p => ((((A0.put (some 133) (v 0)).put (some 134) (v 1)).put (some 135) (v 2)).put (some 25) (p 0))) (fun k x => if k = 0 then ResD (kinv xB) x else if k = 1 then ResD (xA * kinv xB) x else ResO V x) [2, 3, 4] [5] (by kernel_rfl) (fun U hb => ⟨hb, trivial⟩) ?_ ?_ ?_ l0 A0 (fun _ => undef) (fun _ => undef) (by rw [← hl0]; kernel_rfl) (by subst hA0; kernel_rfl) wr.drew HBD.out _ (by subst hl0; decide +kernel)
      · intro k v p U hk hr hb Φ h
        have h3 : k = 0 ∨ k = 1 ∨ k = 2 := by omega
        rcases h3 with rfl | rfl | rfl
        · refine wpOp_step rfl (fun K' hK => ?_)
          refine fl_call rfl (f := 28) (args := #[.agg (ints .u64 B)]) (by subst hA0; kernel_rfl) (dinv_c B HLB.out U) (fun x U' hx => hK _ _ ?_)
          have e := h x U' (by have hx1 := hx.1; rw [HFB.eq] at hx1; exact hx1) hx.2
          have e2 : ((((A0.put (some 133) (v 0)).put (some 134) (v 1)).put (some 135) (v 2)).put (some 25) (p 0)).put (some 133) x = ((((A0.put (some 133) x).put (some 134) (v 1)).put (some 135) (v 2)).put (some 25) (p 0)) := by subst hA0; kernel_rfl
          exact (congrArg (fun a => Φ a U') e2).mpr e
        · obtain ⟨L0, hv0, hl0', hf0⟩ := hr 0 (by decide)
          have hc : Calls Try.prog 25 #[.agg (ints .u64 A), v 0] U fun e w' => ∃ v', e = .returned v' ∧ (ResD (xA * kinv xB) v' ∧ Below U.heap.size U w') := by
            have hd := dmul_c A L0 HLA.out hl0' U
            rw [HFA.eq, hf0] at hd
            rw [hv0]
            exact hd
          refine wpOp_step rfl (fun K' hK => ?_)
          refine fl_call rfl (f := 25) (args := #[.agg (ints .u64 A), v 0]) (by subst hA0; kernel_rfl) hc (fun x U' hx => hK _ _ ?_)
          have e := h x U' hx.1 hx.2
          have e2 : ((((A0.put (some 133) (v 0)).put (some 134) (v 1)).put (some 135) (v 2)).put (some 25) (p 0)).put (some 134) x = ((((A0.put (some 133) (v 0)).put (some 134) x).put (some 135) (v 2)).put (some 25) (p 0)) := by subst hA0; kernel_rfl
          exact (congrArg (fun a => Φ a U') e2).mpr e
        · obtain ⟨L1, hv1, hl1', hf1⟩ := hr 1 (by decide)
          have hc : Calls Try.prog 27 #[v 1] U fun e w' => ∃ v', e = .returned v' ∧ (ResO V v' ∧ Below U.heap.size U w') := by
            rw [hv1]
            exact (rreduce_any L1 hl1' U).mono fun e w' ⟨R, h, h1, h2, hb⟩ => ⟨_, h, ⟨R, rfl, h1, by rw [h2, hf1, HEND.eq]⟩, hb⟩
          refine wpOp_step rfl (fun K' hK => ?_)
          refine fl_call rfl (f := 27) (args := #[v 1]) (by subst hA0; kernel_rfl) hc (fun x U' hx => hK _ _ ?_)
          have e := h x U' hx.1 hx.2
          have e2 : ((((A0.put (some 133) (v 0)).put (some 134) (v 1)).put (some 135) (v 2)).put (some 25) (p 0)).put (some 135) x = ((((A0.put (some 133) (v 0)).put (some 134) (v 1)).put (some 135) x).put (some 25) (p 0)) := by subst hA0; kernel_rfl
          exact (congrArg (fun a => Φ a U') e2).mpr e
      · intro j v p U hj Φ h
        have h3 : j = 0 := by omega
        subst h3
        refine wpOp_step rfl (fun K' hK => ?_)
        refine fl_exec rfl (v := .pointer (some ⟨U.heap.size, 0, none⟩)) (w' := U.alloc (.cells (ints .u64 (List.replicate 16 0)) 54)) (by kernel_rfl) (hK _ _ ?_)
        have e2 : ((((A0.put (some 133) (v 0)).put (some 134) (v 1)).put (some 135) (v 2)).put (some 25) (p 0)).put (some 25) (.pointer (some ⟨U.heap.size, 0, none⟩)) = ((((A0.put (some 133) (v 0)).put (some 134) (v 1)).put (some 135) (v 2)).put (some 25) (.pointer (some ⟨U.heap.size, 0, none⟩))) := by subst hA0; kernel_rfl
        exact (congrArg (fun a => Φ a _) e2).mpr h
      intro v pp U hr hb hp hne n0 hn0
      obtain ⟨R, e2, hlR, hnR⟩ := hr 2 (by decide)
      obtain ⟨g25, d0, hg0, hz0⟩ := hp 0 (by decide)
      obtain ⟨n0, rfl⟩ : ∃ m, n0 = m + 1 := ⟨n0 - 1, by have : cnt (stR24 3 (bitsOf 1 fun _ => true)) = 1 := (by decide +kernel); omega⟩
      simp only [e2, d0]
      have HIR := hidden (infoD R hlR.len)
      have HLRR := hidden hlR
      have HNR := hidden (fun j hj => pair_step V R hlR hnR j hj)
      have HZ := hidden hz0
      have HB0 := hidden hb
      have hgn : n ≤ g25 := by have h1 := hg0; have h2 := HI1.out.h8.lt; have h3 := HD.out.n8; omega
      have HG := hidden hgn
      have HG0 := hidden hg0
      have HBW := hidden (HI1.out.bel.trans (hb.mono (by have h2 := HI1.out.h8.lt; have h3 := HD.out.n8; omega)))
      clear hr hp hne hn0 e2 d0 hlR hnR hz0 hb hS0 hg0 hgn
      refine anyC_one (i := 6) (by kernel_rfl) rfl (fun K' hK => ?_)
      with_reducible refine fl_skip (w' := U.setRow g25 (ints .u64 R)) ?_ ?_ ?_
      · rfl
      · exact fl_store 54 _ _ rfl g25 0 (ints .u64 R) (ints .u64 R) (by subst hA0; kernel_rfl) (by subst hA0; kernel_rfl) 54 _ HZ.out.heap HIR.out (by rw [ints_size, ints_size, HLRR.out.len]; decide) (onek .u64 R) (patch_all _ _ _ (by rw [HLRR.out.len]; rfl))
      refine hK.out _ _ (below_setRow HB0.out HG0.out _) (fun _ => trivial) ?_
      clear hK K'
      have HN := hidden (HZ.out.row R)
      replace HBW := hidden (below_setRow HBW.out HG.out (ints .u64 R))
      generalize World.setRow U g25 _ = W7 at *
      refine anyC_done (by kernel_rfl) ?_ _
      subst hA0
      have HWN := HWS
      clear HI1 HIA HIB HIC HID HB0 HZ HBD hl0 HLA HLB HFA HFB HEND
      obtain ⟨v0, hv0⟩ : ∃ x, v 0 = x := ⟨_, rfl⟩
      obtain ⟨v1, hv1⟩ : ∃ x, v 1 = x := ⟨_, rfl⟩
      rw [hv0, hv1]
      clear hv0 hv1
      have HONIL := hidden (Own.nil W7 n 5)
      have HDZ : Is (dig 256 (2 * 0) V) [] := ⟨rfl⟩
      go_wp2
      go_loopw [26, 27] (fun o i wr => ∃ j : Nat, j ≤ 16 ∧ i = .int .i64 j ∧ Own wr n 5 o (dig 256 (2 * j) V) ∧ Wn .u64 wr g25 54 R ∧ Below n w wr) (fun _ i _ => 16 - (intOf i).toNat)
      case atStart => exact ⟨0, by omega, rfl, by rw [HDZ.eq]; exact HONIL.out, HN.out, HBW.out⟩
      case round =>
        obtain ⟨j, hj, rfl, ho, hw, hbl⟩ := hrel
        have HO := hidden ho
        have HW := hidden hw
        have HB := hidden hbl
        by_cases hlt : j < 16
        · have hcell : wr.cell? ⟨g25, j, none⟩ = some (.int .u64 (R.getD j 0)) := hw.cell j (by rw [HLRR.out.len]; exact hlt)
          obtain ⟨hs, hx0, hx1⟩ := HNR.out j hlt
          have HSS := Is.mk hs
          have HL := Is.mk (dig_len 256 (2 * j) V)
          generalize R.getD j 0 = x at hcell HSS hx0 hx1
          generalize dig 256 (2 * j) V = Dj at *
          have hbn : some g25 ≠ u26.ownBlock := ho.offM hw
          have d0 : 0 ≤ x % 256 ∧ x % 256 ≤ 255 := by omega
          have d1 : 0 ≤ x / 256 ∧ x / 256 ≤ 255 := by omega
          have bj : (j : Int) < 16 := by omega
          have bj0 : (0 : Int) ≤ (j : Int) := by omega
          obtain ⟨i1, hi, hz0, hz1, hz2⟩ := info_parts Try.infoByte
          clear ho hw hbl hs HN HBW HG0
          go_wp2
          go_region_held3 (fun w' => w'.cell? ⟨g25, j, none⟩ = some (.int .u64 x)) (first | exact hcell | go_keep | exact World.grownBy.cell hg2 (by go_simp) hbn)
            ((refine step_append_byt _ (by rfl) _ _ 22 (by rfl) n 5 i1 (.int .u8 0) Try.underlying22 hi hz0 hz1 hz2 rfl _ _ (by rfl) ((HO.out.alloc _).drew) _ _ _ _ [x % 256, x / 256] (by rfl) (two_byt d0 d1 (by go_simp; rw [IntKind.wrap_u8]) (by go_simp; rw [IntKind.wrap_u8]; omega)) (by rfl) (by rw [HL.eq]; omega) (by have := HB.out.size; have := HWN.eq; simp; omega) ?_; intro u' w2 hown2 hg2))
          all_goals
            have hnle : n ≤ wr.heap.size := by have := HB.out.size; have := HWN.eq; omega
            have HB3 := hidden ((HB.out.alloc hnle _).drew.grown hg2 (by simp; omega) (fun g hg => (HO.out.lt g hg).1))
            clear hnle
            have HO3 : Hid (Own w2 n 5 u' (dig 256 (2 * (j + 1)) V)) := by rw [← HSS.eq]; exact hidden hown2
            have HW3 : Hid (Wn .u64 w2 g25 54 R) := hidden (((HW.out.alloc _).drew).grown hg2 hbn)
            clear hg2 hown2 d0 d1 hbn bj bj0 hi hz0 hz1 hz2 HW HB HO hcell hx0 hx1 HL
            go_wp2
            go_roundw
            case rel => exact ⟨j + 1, by omega, by go_num, HO3.out, HW3.out, HB3.out⟩
            case measure => simp [intOf] <;> omega
        · have hj16 : j = 16 := by omega
          have hb16 : ¬ (j : Int) < 16 := by omega
          have ho2 : Own wr n 5 u26 (dig 256 32 V) := by rw [hj16] at ho; exact ho
          obtain ⟨p', c', rfl, hbod⟩ := ho2.bod (dig_len _ _ _) (fun y hy => by have := dig_rng 256 (by decide) _ _ y hy; omega)
          have HBD := hidden hbod
          clear ho hw hbl hj16 ho2 hbod HN HBW HG0 HO HW
          go_wp2
          go_ret2
          exact ⟨p', c', rfl, by rw [HWN.eq]; exact HBD.out, by rw [HWN.eq]; exact HB.out⟩
end Go.Proofs.Ytilnbmlbahflkaa
