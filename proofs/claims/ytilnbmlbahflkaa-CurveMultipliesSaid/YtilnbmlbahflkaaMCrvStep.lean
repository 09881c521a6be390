/-
  curve.step.
-/
import Derived.Test.YtilnbmlbahflkaaMCrvExch
import Derived.Test.YtilnbmlbahflkaaMFlowC
import Derived.Test.YtilnbmlbahflkaaMCrvSpec
namespace Go.Proofs.Ytilnbmlbahflkaa
open Go.RowKit
set_option linter.unusedVariables false

/-- A value is an element: its limbs are below m, and it stands for x. -/
def Res (m : Int) (x : K) (v : Value) : Prop := ∃ L, v = .agg (ints .u64 L) ∧ Lw m L ∧ fe L = x
theorem sum_c (A B : List Int) (hA : Lw m1 A) (hB : Lw m1 B) (U : World) : Calls Try.prog 32 #[.agg (ints .u64 A), .agg (ints .u64 B)] U fun e w' => ∃ v, e = .returned v ∧ (Res m2 (fe A + fe B) v ∧ Below U.heap.size U w') := by
  refine (csum_any A B hA.len hB.len (fun x hx => ?_) (fun x hx => ?_) U).mono ?_
  · have := hA.rng x hx; unfold m1 at this; omega
  · have := hB.rng x hx; unfold m1 at this; omega
  · rintro e w' ⟨rfl, hb⟩
    exact ⟨_, rfl, ⟨_, rfl, add_lw hA hB, add_fe hA.len hB.len⟩, hb⟩
theorem dif_c (A B : List Int) (hA : Lw m1 A) (hB : Lw m1 B) (U : World) : Calls Try.prog 33 #[.agg (ints .u64 A), .agg (ints .u64 B)] U fun e w' => ∃ v, e = .returned v ∧ (Res m2 (fe A - fe B) v ∧ Below U.heap.size U w') := by
  refine (cdif_any A B hA.len hB.len hA.rng hB.rng U).mono ?_
  rintro e w' ⟨rfl, hb⟩
  exact ⟨_, rfl, ⟨_, rfl, sub_lw hA hB, sub_fe hA hB⟩, hb⟩
theorem prod_c (A B : List Int) (hA : Lw m2 A) (hB : Lw m2 B) (U : World) : Calls Try.prog 20 #[.agg (ints .u64 A), .agg (ints .u64 B)] U fun e w' => ∃ v, e = .returned v ∧ (Res m1 (fe A * fe B) v ∧ Below U.heap.size U w') := by
  refine (cprod_any A B hA hB U).mono ?_
  rintro e w' ⟨R, rfl, h1, h2, hb⟩
  exact ⟨_, rfl, ⟨_, rfl, h1, h2⟩, hb⟩
theorem grown_setRow (w : World) (g : Nat) (cs : Array Value) : w.grownBy (w.setRow g cs) (some g) := ⟨rfl, rfl, rfl, by simp [World.setRow], fun k hk hne => setRow_other w g k cs (fun e => hne (by rw [e]))⟩
theorem Lw.up {L : List Int} (h : Lw m1 L) : Lw m2 L := h.mono (by decide)
/-- Which operations have come up in the statements. -/
def stL1 (k : Nat) (b : List Bool) : Array Bool := #[true, true, true, true, decide (0 < k), true, true, true, true, decide (1 < k), b.getD 0 false, b.getD 1 false, false, false]
def stL3 (k : Nat) (b : List Bool) : Array Bool := #[true, true, decide (0 < k), true, true, decide (1 < k), b.getD 0 false, b.getD 1 false, false, false]
def stL5 (k : Nat) (b : List Bool) : Array Bool := #[true, true, decide (0 < k), true, true, decide (1 < k), true, true, decide (2 < k), b.getD 0 false, b.getD 1 false, b.getD 2 false, false, false, false]
theorem fe_factor : fe [121665, 0, 0, 0, 0] = 121665 := by
  unfold fe
  rw [num51]
  exact toK_litF
theorem lw_factor : Lw m2 [121665, 0, 0, 0, 0] := by
  unfold m2
  exact Lw.of (by omega) (by omega) (by omega) (by omega) (by omega)

set_option maxHeartbeats 3200000 in
set_option maxRecDepth 100000 in
theorem cstep_any (LU LA LB LC LD : List Int) (hU : Lw m1 LU) (hA : Lw m1 LA) (hB : Lw m1 LB) (hC : Lw m1 LC) (hD : Lw m1 LD) (w : World) :
    Calls Try.prog 18 #[.agg (ints .u64 LU), .agg (ints .u64 (LA ++ LB)), .agg (ints .u64 (LC ++ LD))] w fun e w' => ∃ R1 R2 R3 R4,
      e = .returned (.tuple #[.agg (ints .u64 (R1 ++ R2)), .agg (ints .u64 (R3 ++ R4))]) ∧ Lw m1 R1 ∧ Lw m1 R2 ∧ Lw m1 R3 ∧ Lw m1 R4 ∧
      fe R1 = stX2 (fe LA) (fe LB) ∧ fe R2 = stZ2 (fe LA) (fe LB) ∧ fe R3 = stX3 (fe LA) (fe LB) (fe LC) (fe LD) ∧ fe R4 = stZ3 (fe LU) (fe LA) (fe LB) (fe LC) (fe LD) ∧ Below w.heap.size w w' := by
  have HLU := hidden hU
  have HLA := hidden hA
  have HLB := hidden hB
  have HLC := hidden hC
  have HLD := hidden hD
  have HIU := hidden (infoE LU hU.len)
  have HIA := hidden (infoE LA hA.len)
  have HIB := hidden (infoE LB hB.len)
  have HIC := hidden (infoE LC hC.len)
  have HID := hidden (infoE LD hD.len)
  have HLN := hidden (⟨hA.len, hC.len⟩ : LA.length = 5 ∧ LC.length = 5)
  have HLM := hidden (⟨hB.len, hD.len⟩ : LB.length = 5 ∧ LD.length = 5)
  obtain ⟨xU, hxU⟩ : ∃ x, fe LU = x := ⟨_, rfl⟩
  obtain ⟨xA, hxA⟩ : ∃ x, fe LA = x := ⟨_, rfl⟩
  obtain ⟨xB, hxB⟩ : ∃ x, fe LB = x := ⟨_, rfl⟩
  obtain ⟨xC, hxC⟩ : ∃ x, fe LC = x := ⟨_, rfl⟩
  obtain ⟨xD, hxD⟩ : ∃ x, fe LD = x := ⟨_, rfl⟩
  have HFU := Is.mk hxU
  have HFA := Is.mk hxA
  have HFB := Is.mk hxB
  have HFC := Is.mk hxC
  have HFD := Is.mk hxD
  rw [hxU, hxA, hxB, hxC, hxD]
  have HFK := Is.mk fe_factor
  have HLK := hidden lw_factor
  clear hU hA hB hC hD hxU hxA hxB hxC hxD
  go_enter Try.func18, Try.ntmps18
  go_upto_region 1 with fail
  generalize hw1 : World.alloc _ (.cells _ 45) = w1
  have hu : Wn .u64 w1 w.heap.size 42 LU := by
    rw [← hw1]
    exact ((((Wn.new .u64 w 42 LU _ rfl).alloc _).alloc _).alloc _).alloc _
  have hs : Wn .u64 w1 (w.heap.size + 1) 45 (LA ++ LB) := by
    rw [← hw1]
    exact (((Wn.new' .u64 _ 45 (LA ++ LB) _ rfl _ (by simp)).alloc _).alloc _).alloc _
  have ht : Wn .u64 w1 (w.heap.size + 1 + 1) 45 (LC ++ LD) := by
    rw [← hw1]
    exact ((Wn.new' .u64 _ 45 (LC ++ LD) _ rfl _ (by simp)).alloc _).alloc _
  have hp : Wn .u64 w1 (w.heap.size + 1 + 1 + 1) 45 (List.replicate 10 0) := by
    rw [← hw1]
    exact (Wn.new' .u64 _ 45 (List.replicate 10 0) _ rfl _ (by simp)).alloc _
  have hq : Wn .u64 w1 (w.heap.size + 1 + 1 + 1 + 1) 45 (List.replicate 10 0) := by
    rw [← hw1]
    exact Wn.new' .u64 _ 45 (List.replicate 10 0) _ rfl _ (by simp)
  have hb : Below w.heap.size w w1 := by
    rw [← hw1]
    exact (((((Below.refl _ w).alloc (Nat.le_refl _) _).alloc (by simp) _).alloc (by simp; omega) _).alloc (by simp; omega) _).alloc (by simp; omega) _
  clear hw1
  obtain ⟨n, hn⟩ : ∃ n, w.heap.size = n := ⟨_, rfl⟩
  simp only [hn] at hu hs ht hp hq hb ⊢
  have HN := hidden hn
  have Hu_w1 := hidden hu
  have Hs_w1 := hidden hs
  have Ht_w1 := hidden ht
  have Hp_w1 := hidden hp
  have Hq_w1 := hidden hq
  have HB_w1 := hidden hb
  clear hu hs ht hp hq hb hn
  -- statement 1
  go_upto_region 1 with fail
  have HBD := hidden ((Below.refl w1.heap.size w1).drew)
  refine region_C 12 (fun U => Below w1.heap.size w1 U) (fun _ => True) (by kernel_rfl) HBD.out trivial (fun hS0 _ => ?_)
  refine anyC_take (i := 0) (v := .pointer (some ⟨n + 1, 0, none⟩)) rfl rfl (by decide) (by kernel_rfl) (by kernel_rfl) (by kernel_rfl) (fun _ _ _ h => h) (Or.inl ⟨by rfl, ?_⟩) hS0 (fun _ => trivial) ?_
  · intro w0 _; kernel_rfl
  refine anyC_take (i := 1) (v := .agg (ints .u64 LA)) rfl rfl (by decide) (by kernel_rfl) (by kernel_rfl) (by kernel_rfl) (fun _ _ _ h => h) (Or.inl ⟨by rfl, ?_⟩) hS0 (fun _ => trivial) ?_
  · rintro w0 hb0
    exact fl_load 42 _ rfl (n + 1) 0 (by kernel_rfl) 45 _ _ (0, 0) _ (Hs_w1.out.below hb0).heap Try.underlying42 rfl HIA.out (fun j v h => part_l _ _ _ j v h)
  refine anyC_take (i := 2) (v := .pointer (some ⟨n + 1, 5, none⟩)) rfl rfl (by decide) (by kernel_rfl) (by kernel_rfl) (by kernel_rfl) (fun _ _ _ h => h) (Or.inl ⟨by rfl, ?_⟩) hS0 (fun _ => trivial) ?_
  · intro w0 _; kernel_rfl
  refine anyC_take (i := 3) (v := .agg (ints .u64 LB)) rfl rfl (by decide) (by kernel_rfl) (by kernel_rfl) (by kernel_rfl) (fun _ _ _ h => h) (Or.inl ⟨by rfl, ?_⟩) hS0 (fun _ => trivial) ?_
  · rintro w0 hb0
    exact fl_load 42 _ rfl (n + 1) 5 (by kernel_rfl) 45 _ _ (0, 0) _ (Hs_w1.out.below hb0).heap Try.underlying42 rfl HIB.out (fun j v h => part_r _ _ _ 5 j v HLN.out.1 h)
  refine anyC_take (i := 5) (v := .pointer (some ⟨n + 1, 0, none⟩)) rfl rfl (by decide) (by kernel_rfl) (by kernel_rfl) (by kernel_rfl) (fun _ _ _ h => h) (Or.inl ⟨by rfl, ?_⟩) hS0 (fun _ => trivial) ?_
  · intro w0 _; kernel_rfl
  refine anyC_take (i := 6) (v := .agg (ints .u64 LA)) rfl rfl (by decide) (by kernel_rfl) (by kernel_rfl) (by kernel_rfl) (fun _ _ _ h => h) (Or.inl ⟨by rfl, ?_⟩) hS0 (fun _ => trivial) ?_
  · rintro w0 hb0
    exact fl_load 42 _ rfl (n + 1) 0 (by kernel_rfl) 45 _ _ (0, 0) _ (Hs_w1.out.below hb0).heap Try.underlying42 rfl HIA.out (fun j v h => part_l _ _ _ j v h)
  refine anyC_take (i := 7) (v := .pointer (some ⟨n + 1, 5, none⟩)) rfl rfl (by decide) (by kernel_rfl) (by kernel_rfl) (by kernel_rfl) (fun _ _ _ h => h) (Or.inl ⟨by rfl, ?_⟩) hS0 (fun _ => trivial) ?_
  · intro w0 _; kernel_rfl
  refine anyC_take (i := 8) (v := .agg (ints .u64 LB)) rfl rfl (by decide) (by kernel_rfl) (by kernel_rfl) (by kernel_rfl) (fun _ _ _ h => h) (Or.inl ⟨by rfl, ?_⟩) hS0 (fun _ => trivial) ?_
  · rintro w0 hb0
    exact fl_load 42 _ rfl (n + 1) 5 (by kernel_rfl) 45 _ _ (0, 0) _ (Hs_w1.out.below hb0).heap Try.underlying42 rfl HIB.out (fun j v h => part_r _ _ _ 5 j v HLN.out.1 h)
  generalize hl0 : Array.setIfInBounds (α := Bool) _ _ _ = l0
  generalize hA0 : Act.put _ _ _ = A0
  refine anyC_run w1 .u64 42 (List.replicate 5 0) 2 2 stL1 (fun v p => ((((A0.put (some 23) (v 0)).put (some 28) (v 1)).put (some 8) (p 0)).put (some 9) (p 1))) (fun k x => if k = 0 then Res m2 (xA + xB) x else if k = 1 then Res m2 (xA - xB) x else True) [4, 9] [10, 11] (by kernel_rfl) (fun U hb => ⟨hb, trivial⟩) ?_ ?_ ?_ l0 A0 (fun _ => undef) (fun _ => undef) (by rw [← hl0]; kernel_rfl) (by subst hA0; kernel_rfl) w1.drew HBD.out _ (by subst hl0; decide +kernel)
  · intro k v p U hk hr hb Φ h
    have h3 : k = 0 ∨ k = 1 := by omega
    rcases h3 with rfl | rfl
    · refine wpOp_step rfl (fun K' hK => ?_)
      refine fl_call rfl (f := 32) (args := #[.agg (ints .u64 LA), .agg (ints .u64 LB)]) (by subst hA0; kernel_rfl) (sum_c LA LB HLA.out HLB.out U) (fun x U' hx => hK _ _ ?_)
      have e := h x U' (by have hx1 := hx.1; rw [HFA.eq, HFB.eq] at hx1; exact hx1) hx.2
      have e2 : (((((A0.put (some 23) (v 0)).put (some 28) (v 1)).put (some 8) (p 0)).put (some 9) (p 1))).put (some 23) x = ((((A0.put (some 23) x).put (some 28) (v 1)).put (some 8) (p 0)).put (some 9) (p 1)) := by subst hA0; kernel_rfl
      exact (congrArg (fun a => Φ a U') e2).mpr e
    · refine wpOp_step rfl (fun K' hK => ?_)
      refine fl_call rfl (f := 33) (args := #[.agg (ints .u64 LA), .agg (ints .u64 LB)]) (by subst hA0; kernel_rfl) (dif_c LA LB HLA.out HLB.out U) (fun x U' hx => hK _ _ ?_)
      have e := h x U' (by have hx1 := hx.1; rw [HFA.eq, HFB.eq] at hx1; exact hx1) hx.2
      have e2 : (((((A0.put (some 23) (v 0)).put (some 28) (v 1)).put (some 8) (p 0)).put (some 9) (p 1))).put (some 28) x = ((((A0.put (some 23) (v 0)).put (some 28) x).put (some 8) (p 0)).put (some 9) (p 1)) := by subst hA0; kernel_rfl
      exact (congrArg (fun a => Φ a U') e2).mpr e
  · intro j v p U hj Φ h
    have h3 : j = 0 ∨ j = 1 := by omega
    rcases h3 with rfl | rfl
    · refine wpOp_step rfl (fun K' hK => ?_)
      refine fl_exec rfl (v := .pointer (some ⟨U.heap.size, 0, none⟩)) (w' := U.alloc (.cells (ints .u64 (List.replicate 5 0)) 42)) (by kernel_rfl) (hK _ _ ?_)
      have e2 : (((((A0.put (some 23) (v 0)).put (some 28) (v 1)).put (some 8) (p 0)).put (some 9) (p 1))).put (some 8) (.pointer (some ⟨U.heap.size, 0, none⟩)) = ((((A0.put (some 23) (v 0)).put (some 28) (v 1)).put (some 8) (.pointer (some ⟨U.heap.size, 0, none⟩))).put (some 9) (p 1)) := by subst hA0; kernel_rfl
      exact (congrArg (fun a => Φ a _) e2).mpr h
    · refine wpOp_step rfl (fun K' hK => ?_)
      refine fl_exec rfl (v := .pointer (some ⟨U.heap.size, 0, none⟩)) (w' := U.alloc (.cells (ints .u64 (List.replicate 5 0)) 42)) (by kernel_rfl) (hK _ _ ?_)
      have e2 : (((((A0.put (some 23) (v 0)).put (some 28) (v 1)).put (some 8) (p 0)).put (some 9) (p 1))).put (some 9) (.pointer (some ⟨U.heap.size, 0, none⟩)) = ((((A0.put (some 23) (v 0)).put (some 28) (v 1)).put (some 8) (p 0)).put (some 9) (.pointer (some ⟨U.heap.size, 0, none⟩))) := by subst hA0; kernel_rfl
      exact (congrArg (fun a => Φ a _) e2).mpr h
  intro v p U hr hb hp hne n0 hn0
  obtain ⟨L8, e0, hl8, hf8⟩ := hr 0 (by decide)
  have HL8 := hidden hl8
  have HF8 := Is.mk hf8
  have HI8 := hidden (infoE L8 hl8.len)
  have HZ8 := hidden hl8.len
  clear hl8 hf8
  obtain ⟨L9, e1, hl9, hf9⟩ := hr 1 (by decide)
  have HL9 := hidden hl9
  have HF9 := Is.mk hf9
  have HI9 := hidden (infoE L9 hl9.len)
  have HZ9 := hidden hl9.len
  clear hl9 hf9
  obtain ⟨g8, d0, hg0, hz0⟩ := hp 0 (by decide)
  have HZ0 := hidden hz0
  have HG0 := hidden hg0
  have HGG8 : Hid (n + 1 + 1 + 1 + 1 < g8) := by have := hg0; have := Hq_w1.out.lt; show _ < _; omega
  obtain ⟨g9, d1, hg1, hz1⟩ := hp 1 (by decide)
  have HZ1 := hidden hz1
  have HG1 := hidden hg1
  have HGG9 : Hid (n + 1 + 1 + 1 + 1 < g9) := by have := hg1; have := Hq_w1.out.lt; show _ < _; omega
  have hne01 : g8 ≠ g9 := fun e => hne 0 1 (by decide) (by decide) (by decide) (by rw [d0, d1, e])
  obtain ⟨n0, rfl⟩ : ∃ m, n0 = m + 2 := ⟨n0 - 2, by have : cnt (stL1 2 (bitsOf 2 fun _ => true)) = 2 := (by decide +kernel); omega⟩
  simp only [e0, e1, d0, d1]
  clear hr hp hne hn0 e0 e1 d0 hz0 hg0 d1 hz1 hg1
  have HB0 := hidden hb
  clear hb hS0
  refine anyC_one (i := 12) (by kernel_rfl) rfl (fun K' hK => ?_)
  with_reducible refine fl_skip (w' := U.setRow g8 (ints .u64 L8)) ?_ ?_ ?_
  · rfl
  · exact fl_store 42 _ _ rfl g8 0 (ints .u64 L8) (ints .u64 L8) (by subst hA0; kernel_rfl) (by subst hA0; kernel_rfl) 42 _ HZ0.out.heap HI8.out (by rw [ints_size, ints_size, HZ8.out]; decide) (onek .u64 L8) (patch_all _ _ _ (by rw [HZ8.out]; rfl))
  refine hK.out _ _ (below_setRow HB0.out HG0.out _) (fun _ => trivial) ?_
  clear hK K'
  replace HB0 := hidden (below_setRow HB0.out HG0.out (ints .u64 L8))
  have HN0 := hidden (HZ0.out.row L8)
  replace HZ1 := hidden (HZ1.out.rowOther g8 (ints .u64 L8) (Ne.symm hne01))
  generalize World.setRow U _ _ = U1_1 at *
  refine anyC_one (i := 13) (by kernel_rfl) rfl (fun K' hK => ?_)
  with_reducible refine fl_skip (w' := U1_1.setRow g9 (ints .u64 L9)) ?_ ?_ ?_
  · rfl
  · exact fl_store 42 _ _ rfl g9 0 (ints .u64 L9) (ints .u64 L9) (by subst hA0; kernel_rfl) (by subst hA0; kernel_rfl) 42 _ HZ1.out.heap HI9.out (by rw [ints_size, ints_size, HZ9.out]; decide) (onek .u64 L9) (patch_all _ _ _ (by rw [HZ9.out]; rfl))
  refine hK.out _ _ (below_setRow HB0.out HG1.out _) (fun _ => trivial) ?_
  clear hK K'
  replace HB0 := hidden (below_setRow HB0.out HG1.out (ints .u64 L9))
  replace HN0 := hidden (HN0.out.rowOther g9 (ints .u64 L9) hne01)
  have HN1 := hidden (HZ1.out.row L9)
  generalize World.setRow U1_1 _ _ = U1_2 at *
  refine anyC_done (by kernel_rfl) ?_ _
  subst hA0
  skip
  have Hu_w2 := hidden (Hu_w1.out.below HB0.out)
  have Hs_w2 := hidden (Hs_w1.out.below HB0.out)
  have Ht_w2 := hidden (Ht_w1.out.below HB0.out)
  have Hp_w2 := hidden (Hp_w1.out.below HB0.out)
  have Hq_w2 := hidden (Hq_w1.out.below HB0.out)
  have HB_w2 := hidden (HB_w1.out.trans (HB0.out.mono (by have := HB_w1.out.size; have := HN.out; omega)))
  have H8_w2 := HN0
  have H9_w2 := HN1
  clear Hu_w1 Hs_w1 Ht_w1 Hp_w1 Hq_w1 HB_w1 HB0 HBD HN0 HZ0 HG0 HN1 HZ1 HG1
  generalize U1_2 = w2 at *
  -- statement 2
  go_upto_region 2 with fail
  have HBD := hidden ((Below.refl w2.heap.size w2).drew)
  refine region_C 12 (fun U => Below w2.heap.size w2 U) (fun _ => True) (by kernel_rfl) HBD.out trivial (fun hS0 _ => ?_)
  refine anyC_take (i := 0) (v := .pointer (some ⟨n + 1 + 1, 0, none⟩)) rfl rfl (by decide) (by kernel_rfl) (by kernel_rfl) (by kernel_rfl) (fun _ _ _ h => h) (Or.inl ⟨by rfl, ?_⟩) hS0 (fun _ => trivial) ?_
  · intro w0 _; kernel_rfl
  refine anyC_take (i := 1) (v := .agg (ints .u64 LC)) rfl rfl (by decide) (by kernel_rfl) (by kernel_rfl) (by kernel_rfl) (fun _ _ _ h => h) (Or.inl ⟨by rfl, ?_⟩) hS0 (fun _ => trivial) ?_
  · rintro w0 hb0
    exact fl_load 42 _ rfl (n + 1 + 1) 0 (by kernel_rfl) 45 _ _ (0, 0) _ (Ht_w2.out.below hb0).heap Try.underlying42 rfl HIC.out (fun j v h => part_l _ _ _ j v h)
  refine anyC_take (i := 2) (v := .pointer (some ⟨n + 1 + 1, 5, none⟩)) rfl rfl (by decide) (by kernel_rfl) (by kernel_rfl) (by kernel_rfl) (fun _ _ _ h => h) (Or.inl ⟨by rfl, ?_⟩) hS0 (fun _ => trivial) ?_
  · intro w0 _; kernel_rfl
  refine anyC_take (i := 3) (v := .agg (ints .u64 LD)) rfl rfl (by decide) (by kernel_rfl) (by kernel_rfl) (by kernel_rfl) (fun _ _ _ h => h) (Or.inl ⟨by rfl, ?_⟩) hS0 (fun _ => trivial) ?_
  · rintro w0 hb0
    exact fl_load 42 _ rfl (n + 1 + 1) 5 (by kernel_rfl) 45 _ _ (0, 0) _ (Ht_w2.out.below hb0).heap Try.underlying42 rfl HID.out (fun j v h => part_r _ _ _ 5 j v HLN.out.2 h)
  refine anyC_take (i := 5) (v := .pointer (some ⟨n + 1 + 1, 0, none⟩)) rfl rfl (by decide) (by kernel_rfl) (by kernel_rfl) (by kernel_rfl) (fun _ _ _ h => h) (Or.inl ⟨by rfl, ?_⟩) hS0 (fun _ => trivial) ?_
  · intro w0 _; kernel_rfl
  refine anyC_take (i := 6) (v := .agg (ints .u64 LC)) rfl rfl (by decide) (by kernel_rfl) (by kernel_rfl) (by kernel_rfl) (fun _ _ _ h => h) (Or.inl ⟨by rfl, ?_⟩) hS0 (fun _ => trivial) ?_
  · rintro w0 hb0
    exact fl_load 42 _ rfl (n + 1 + 1) 0 (by kernel_rfl) 45 _ _ (0, 0) _ (Ht_w2.out.below hb0).heap Try.underlying42 rfl HIC.out (fun j v h => part_l _ _ _ j v h)
  refine anyC_take (i := 7) (v := .pointer (some ⟨n + 1 + 1, 5, none⟩)) rfl rfl (by decide) (by kernel_rfl) (by kernel_rfl) (by kernel_rfl) (fun _ _ _ h => h) (Or.inl ⟨by rfl, ?_⟩) hS0 (fun _ => trivial) ?_
  · intro w0 _; kernel_rfl
  refine anyC_take (i := 8) (v := .agg (ints .u64 LD)) rfl rfl (by decide) (by kernel_rfl) (by kernel_rfl) (by kernel_rfl) (fun _ _ _ h => h) (Or.inl ⟨by rfl, ?_⟩) hS0 (fun _ => trivial) ?_
  · rintro w0 hb0
    exact fl_load 42 _ rfl (n + 1 + 1) 5 (by kernel_rfl) 45 _ _ (0, 0) _ (Ht_w2.out.below hb0).heap Try.underlying42 rfl HID.out (fun j v h => part_r _ _ _ 5 j v HLN.out.2 h)
  generalize hl0 : Array.setIfInBounds (α := Bool) _ _ _ = l0
  generalize hA0 : Act.put _ _ _ = A0
  refine anyC_run w2 .u64 42 (List.replicate 5 0) 2 2 stL1 (fun v p => ((((A0.put (some 33) (v 0)).put (some 38) (v 1)).put (some 10) (p 0)).put (some 11) (p 1))) (fun k x => if k = 0 then Res m2 (xC + xD) x else if k = 1 then Res m2 (xC - xD) x else True) [4, 9] [10, 11] (by kernel_rfl) (fun U hb => ⟨hb, trivial⟩) ?_ ?_ ?_ l0 A0 (fun _ => undef) (fun _ => undef) (by rw [← hl0]; kernel_rfl) (by subst hA0; kernel_rfl) w2.drew HBD.out _ (by subst hl0; decide +kernel)
  · intro k v p U hk hr hb Φ h
    have h3 : k = 0 ∨ k = 1 := by omega
    rcases h3 with rfl | rfl
    · refine wpOp_step rfl (fun K' hK => ?_)
      refine fl_call rfl (f := 32) (args := #[.agg (ints .u64 LC), .agg (ints .u64 LD)]) (by subst hA0; kernel_rfl) (sum_c LC LD HLC.out HLD.out U) (fun x U' hx => hK _ _ ?_)
      have e := h x U' (by have hx1 := hx.1; rw [HFC.eq, HFD.eq] at hx1; exact hx1) hx.2
      have e2 : (((((A0.put (some 33) (v 0)).put (some 38) (v 1)).put (some 10) (p 0)).put (some 11) (p 1))).put (some 33) x = ((((A0.put (some 33) x).put (some 38) (v 1)).put (some 10) (p 0)).put (some 11) (p 1)) := by subst hA0; kernel_rfl
      exact (congrArg (fun a => Φ a U') e2).mpr e
    · refine wpOp_step rfl (fun K' hK => ?_)
      refine fl_call rfl (f := 33) (args := #[.agg (ints .u64 LC), .agg (ints .u64 LD)]) (by subst hA0; kernel_rfl) (dif_c LC LD HLC.out HLD.out U) (fun x U' hx => hK _ _ ?_)
      have e := h x U' (by have hx1 := hx.1; rw [HFC.eq, HFD.eq] at hx1; exact hx1) hx.2
      have e2 : (((((A0.put (some 33) (v 0)).put (some 38) (v 1)).put (some 10) (p 0)).put (some 11) (p 1))).put (some 38) x = ((((A0.put (some 33) (v 0)).put (some 38) x).put (some 10) (p 0)).put (some 11) (p 1)) := by subst hA0; kernel_rfl
      exact (congrArg (fun a => Φ a U') e2).mpr e
  · intro j v p U hj Φ h
    have h3 : j = 0 ∨ j = 1 := by omega
    rcases h3 with rfl | rfl
    · refine wpOp_step rfl (fun K' hK => ?_)
      refine fl_exec rfl (v := .pointer (some ⟨U.heap.size, 0, none⟩)) (w' := U.alloc (.cells (ints .u64 (List.replicate 5 0)) 42)) (by kernel_rfl) (hK _ _ ?_)
      have e2 : (((((A0.put (some 33) (v 0)).put (some 38) (v 1)).put (some 10) (p 0)).put (some 11) (p 1))).put (some 10) (.pointer (some ⟨U.heap.size, 0, none⟩)) = ((((A0.put (some 33) (v 0)).put (some 38) (v 1)).put (some 10) (.pointer (some ⟨U.heap.size, 0, none⟩))).put (some 11) (p 1)) := by subst hA0; kernel_rfl
      exact (congrArg (fun a => Φ a _) e2).mpr h
    · refine wpOp_step rfl (fun K' hK => ?_)
      refine fl_exec rfl (v := .pointer (some ⟨U.heap.size, 0, none⟩)) (w' := U.alloc (.cells (ints .u64 (List.replicate 5 0)) 42)) (by kernel_rfl) (hK _ _ ?_)
      have e2 : (((((A0.put (some 33) (v 0)).put (some 38) (v 1)).put (some 10) (p 0)).put (some 11) (p 1))).put (some 11) (.pointer (some ⟨U.heap.size, 0, none⟩)) = ((((A0.put (some 33) (v 0)).put (some 38) (v 1)).put (some 10) (p 0)).put (some 11) (.pointer (some ⟨U.heap.size, 0, none⟩))) := by subst hA0; kernel_rfl
      exact (congrArg (fun a => Φ a _) e2).mpr h
  intro v p U hr hb hp hne n0 hn0
  obtain ⟨L10, e0, hl10, hf10⟩ := hr 0 (by decide)
  have HL10 := hidden hl10
  have HF10 := Is.mk hf10
  have HI10 := hidden (infoE L10 hl10.len)
  have HZ10 := hidden hl10.len
  clear hl10 hf10
  obtain ⟨L11, e1, hl11, hf11⟩ := hr 1 (by decide)
  have HL11 := hidden hl11
  have HF11 := Is.mk hf11
  have HI11 := hidden (infoE L11 hl11.len)
  have HZ11 := hidden hl11.len
  clear hl11 hf11
  obtain ⟨g10, d0, hg0, hz0⟩ := hp 0 (by decide)
  have HZ0 := hidden hz0
  have HG0 := hidden hg0
  have HGG10 : Hid (n + 1 + 1 + 1 + 1 < g10) := by have := hg0; have := Hq_w2.out.lt; show _ < _; omega
  obtain ⟨g11, d1, hg1, hz1⟩ := hp 1 (by decide)
  have HZ1 := hidden hz1
  have HG1 := hidden hg1
  have HGG11 : Hid (n + 1 + 1 + 1 + 1 < g11) := by have := hg1; have := Hq_w2.out.lt; show _ < _; omega
  have hne01 : g10 ≠ g11 := fun e => hne 0 1 (by decide) (by decide) (by decide) (by rw [d0, d1, e])
  obtain ⟨n0, rfl⟩ : ∃ m, n0 = m + 2 := ⟨n0 - 2, by have : cnt (stL1 2 (bitsOf 2 fun _ => true)) = 2 := (by decide +kernel); omega⟩
  simp only [e0, e1, d0, d1]
  clear hr hp hne hn0 e0 e1 d0 hz0 hg0 d1 hz1 hg1
  have HB0 := hidden hb
  clear hb hS0
  refine anyC_one (i := 12) (by kernel_rfl) rfl (fun K' hK => ?_)
  with_reducible refine fl_skip (w' := U.setRow g10 (ints .u64 L10)) ?_ ?_ ?_
  · rfl
  · exact fl_store 42 _ _ rfl g10 0 (ints .u64 L10) (ints .u64 L10) (by subst hA0; kernel_rfl) (by subst hA0; kernel_rfl) 42 _ HZ0.out.heap HI10.out (by rw [ints_size, ints_size, HZ10.out]; decide) (onek .u64 L10) (patch_all _ _ _ (by rw [HZ10.out]; rfl))
  refine hK.out _ _ (below_setRow HB0.out HG0.out _) (fun _ => trivial) ?_
  clear hK K'
  replace HB0 := hidden (below_setRow HB0.out HG0.out (ints .u64 L10))
  have HN0 := hidden (HZ0.out.row L10)
  replace HZ1 := hidden (HZ1.out.rowOther g10 (ints .u64 L10) (Ne.symm hne01))
  generalize World.setRow U _ _ = U2_1 at *
  refine anyC_one (i := 13) (by kernel_rfl) rfl (fun K' hK => ?_)
  with_reducible refine fl_skip (w' := U2_1.setRow g11 (ints .u64 L11)) ?_ ?_ ?_
  · rfl
  · exact fl_store 42 _ _ rfl g11 0 (ints .u64 L11) (ints .u64 L11) (by subst hA0; kernel_rfl) (by subst hA0; kernel_rfl) 42 _ HZ1.out.heap HI11.out (by rw [ints_size, ints_size, HZ11.out]; decide) (onek .u64 L11) (patch_all _ _ _ (by rw [HZ11.out]; rfl))
  refine hK.out _ _ (below_setRow HB0.out HG1.out _) (fun _ => trivial) ?_
  clear hK K'
  replace HB0 := hidden (below_setRow HB0.out HG1.out (ints .u64 L11))
  replace HN0 := hidden (HN0.out.rowOther g11 (ints .u64 L11) hne01)
  have HN1 := hidden (HZ1.out.row L11)
  generalize World.setRow U2_1 _ _ = U2_2 at *
  refine anyC_done (by kernel_rfl) ?_ _
  subst hA0
  skip
  have Hu_w3 := hidden (Hu_w2.out.below HB0.out)
  have H8_w3 := hidden (H8_w2.out.below HB0.out)
  have H9_w3 := hidden (H9_w2.out.below HB0.out)
  have Hs_w3 := hidden (Hs_w2.out.below HB0.out)
  have Ht_w3 := hidden (Ht_w2.out.below HB0.out)
  have Hp_w3 := hidden (Hp_w2.out.below HB0.out)
  have Hq_w3 := hidden (Hq_w2.out.below HB0.out)
  have HB_w3 := hidden (HB_w2.out.trans (HB0.out.mono (by have := HB_w2.out.size; have := HN.out; omega)))
  have H10_w3 := HN0
  have H11_w3 := HN1
  clear Hu_w2 H8_w2 H9_w2 Hs_w2 Ht_w2 Hp_w2 Hq_w2 HB_w2 HB0 HBD HN0 HZ0 HG0 HN1 HZ1 HG1
  generalize U2_2 = w3 at *
  -- statement 3
  go_upto_region 3 with fail
  have HBD := hidden ((Below.refl w3.heap.size w3).drew)
  refine region_C 8 (fun U => Below w3.heap.size w3 U) (fun _ => True) (by kernel_rfl) HBD.out trivial (fun hS0 _ => ?_)
  refine anyC_take (i := 0) (v := .agg (ints .u64 L8)) rfl rfl (by decide) (by kernel_rfl) (by kernel_rfl) (by kernel_rfl) (fun _ _ _ h => h) (Or.inl ⟨by rfl, ?_⟩) hS0 (fun _ => trivial) ?_
  · rintro w0 hb0
    exact fl_load 42 _ rfl g8 0 (by kernel_rfl) 42 _ _ (0, 0) _ (H8_w3.out.below hb0).heap Try.underlying42 rfl HI8.out (fun j v h => part_all _ _ j v h)
  refine anyC_take (i := 1) (v := .agg (ints .u64 L8)) rfl rfl (by decide) (by kernel_rfl) (by kernel_rfl) (by kernel_rfl) (fun _ _ _ h => h) (Or.inl ⟨by rfl, ?_⟩) hS0 (fun _ => trivial) ?_
  · rintro w0 hb0
    exact fl_load 42 _ rfl g8 0 (by kernel_rfl) 42 _ _ (0, 0) _ (H8_w3.out.below hb0).heap Try.underlying42 rfl HI8.out (fun j v h => part_all _ _ j v h)
  refine anyC_take (i := 3) (v := .agg (ints .u64 L9)) rfl rfl (by decide) (by kernel_rfl) (by kernel_rfl) (by kernel_rfl) (fun _ _ _ h => h) (Or.inl ⟨by rfl, ?_⟩) hS0 (fun _ => trivial) ?_
  · rintro w0 hb0
    exact fl_load 42 _ rfl g9 0 (by kernel_rfl) 42 _ _ (0, 0) _ (H9_w3.out.below hb0).heap Try.underlying42 rfl HI9.out (fun j v h => part_all _ _ j v h)
  refine anyC_take (i := 4) (v := .agg (ints .u64 L9)) rfl rfl (by decide) (by kernel_rfl) (by kernel_rfl) (by kernel_rfl) (fun _ _ _ h => h) (Or.inl ⟨by rfl, ?_⟩) hS0 (fun _ => trivial) ?_
  · rintro w0 hb0
    exact fl_load 42 _ rfl g9 0 (by kernel_rfl) 42 _ _ (0, 0) _ (H9_w3.out.below hb0).heap Try.underlying42 rfl HI9.out (fun j v h => part_all _ _ j v h)
  generalize hl0 : Array.setIfInBounds (α := Bool) _ _ _ = l0
  generalize hA0 : Act.put _ _ _ = A0
  refine anyC_run w3 .u64 42 (List.replicate 5 0) 2 2 stL3 (fun v p => ((((A0.put (some 41) (v 0)).put (some 44) (v 1)).put (some 12) (p 0)).put (some 13) (p 1))) (fun k x => if k = 0 then Res m1 ((xA + xB) * (xA + xB)) x else if k = 1 then Res m1 ((xA - xB) * (xA - xB)) x else True) [2, 5] [6, 7] (by kernel_rfl) (fun U hb => ⟨hb, trivial⟩) ?_ ?_ ?_ l0 A0 (fun _ => undef) (fun _ => undef) (by rw [← hl0]; kernel_rfl) (by subst hA0; kernel_rfl) w3.drew HBD.out _ (by subst hl0; decide +kernel)
  · intro k v p U hk hr hb Φ h
    have h3 : k = 0 ∨ k = 1 := by omega
    rcases h3 with rfl | rfl
    · refine wpOp_step rfl (fun K' hK => ?_)
      refine fl_call rfl (f := 20) (args := #[.agg (ints .u64 L8), .agg (ints .u64 L8)]) (by subst hA0; kernel_rfl) (prod_c L8 L8 HL8.out HL8.out U) (fun x U' hx => hK _ _ ?_)
      have e := h x U' (by have hx1 := hx.1; rw [HF8.eq] at hx1; exact hx1) hx.2
      have e2 : (((((A0.put (some 41) (v 0)).put (some 44) (v 1)).put (some 12) (p 0)).put (some 13) (p 1))).put (some 41) x = ((((A0.put (some 41) x).put (some 44) (v 1)).put (some 12) (p 0)).put (some 13) (p 1)) := by subst hA0; kernel_rfl
      exact (congrArg (fun a => Φ a U') e2).mpr e
    · refine wpOp_step rfl (fun K' hK => ?_)
      refine fl_call rfl (f := 20) (args := #[.agg (ints .u64 L9), .agg (ints .u64 L9)]) (by subst hA0; kernel_rfl) (prod_c L9 L9 HL9.out HL9.out U) (fun x U' hx => hK _ _ ?_)
      have e := h x U' (by have hx1 := hx.1; rw [HF9.eq] at hx1; exact hx1) hx.2
      have e2 : (((((A0.put (some 41) (v 0)).put (some 44) (v 1)).put (some 12) (p 0)).put (some 13) (p 1))).put (some 44) x = ((((A0.put (some 41) (v 0)).put (some 44) x).put (some 12) (p 0)).put (some 13) (p 1)) := by subst hA0; kernel_rfl
      exact (congrArg (fun a => Φ a U') e2).mpr e
  · intro j v p U hj Φ h
    have h3 : j = 0 ∨ j = 1 := by omega
    rcases h3 with rfl | rfl
    · refine wpOp_step rfl (fun K' hK => ?_)
      refine fl_exec rfl (v := .pointer (some ⟨U.heap.size, 0, none⟩)) (w' := U.alloc (.cells (ints .u64 (List.replicate 5 0)) 42)) (by kernel_rfl) (hK _ _ ?_)
      have e2 : (((((A0.put (some 41) (v 0)).put (some 44) (v 1)).put (some 12) (p 0)).put (some 13) (p 1))).put (some 12) (.pointer (some ⟨U.heap.size, 0, none⟩)) = ((((A0.put (some 41) (v 0)).put (some 44) (v 1)).put (some 12) (.pointer (some ⟨U.heap.size, 0, none⟩))).put (some 13) (p 1)) := by subst hA0; kernel_rfl
      exact (congrArg (fun a => Φ a _) e2).mpr h
    · refine wpOp_step rfl (fun K' hK => ?_)
      refine fl_exec rfl (v := .pointer (some ⟨U.heap.size, 0, none⟩)) (w' := U.alloc (.cells (ints .u64 (List.replicate 5 0)) 42)) (by kernel_rfl) (hK _ _ ?_)
      have e2 : (((((A0.put (some 41) (v 0)).put (some 44) (v 1)).put (some 12) (p 0)).put (some 13) (p 1))).put (some 13) (.pointer (some ⟨U.heap.size, 0, none⟩)) = ((((A0.put (some 41) (v 0)).put (some 44) (v 1)).put (some 12) (p 0)).put (some 13) (.pointer (some ⟨U.heap.size, 0, none⟩))) := by subst hA0; kernel_rfl
      exact (congrArg (fun a => Φ a _) e2).mpr h
  intro v p U hr hb hp hne n0 hn0
  obtain ⟨L12, e0, hl12, hf12⟩ := hr 0 (by decide)
  have HL12 := hidden hl12
  have HF12 := Is.mk hf12
  have HI12 := hidden (infoE L12 hl12.len)
  have HZ12 := hidden hl12.len
  clear hl12 hf12
  obtain ⟨L13, e1, hl13, hf13⟩ := hr 1 (by decide)
  have HL13 := hidden hl13
  have HF13 := Is.mk hf13
  have HI13 := hidden (infoE L13 hl13.len)
  have HZ13 := hidden hl13.len
  clear hl13 hf13
  obtain ⟨g12, d0, hg0, hz0⟩ := hp 0 (by decide)
  have HZ0 := hidden hz0
  have HG0 := hidden hg0
  have HGG12 : Hid (n + 1 + 1 + 1 + 1 < g12) := by have := hg0; have := Hq_w3.out.lt; show _ < _; omega
  obtain ⟨g13, d1, hg1, hz1⟩ := hp 1 (by decide)
  have HZ1 := hidden hz1
  have HG1 := hidden hg1
  have HGG13 : Hid (n + 1 + 1 + 1 + 1 < g13) := by have := hg1; have := Hq_w3.out.lt; show _ < _; omega
  have hne01 : g12 ≠ g13 := fun e => hne 0 1 (by decide) (by decide) (by decide) (by rw [d0, d1, e])
  obtain ⟨n0, rfl⟩ : ∃ m, n0 = m + 2 := ⟨n0 - 2, by have : cnt (stL3 2 (bitsOf 2 fun _ => true)) = 2 := (by decide +kernel); omega⟩
  simp only [e0, e1, d0, d1]
  clear hr hp hne hn0 e0 e1 d0 hz0 hg0 d1 hz1 hg1
  have HB0 := hidden hb
  clear hb hS0
  refine anyC_one (i := 8) (by kernel_rfl) rfl (fun K' hK => ?_)
  with_reducible refine fl_skip (w' := U.setRow g12 (ints .u64 L12)) ?_ ?_ ?_
  · rfl
  · exact fl_store 42 _ _ rfl g12 0 (ints .u64 L12) (ints .u64 L12) (by subst hA0; kernel_rfl) (by subst hA0; kernel_rfl) 42 _ HZ0.out.heap HI12.out (by rw [ints_size, ints_size, HZ12.out]; decide) (onek .u64 L12) (patch_all _ _ _ (by rw [HZ12.out]; rfl))
  refine hK.out _ _ (below_setRow HB0.out HG0.out _) (fun _ => trivial) ?_
  clear hK K'
  replace HB0 := hidden (below_setRow HB0.out HG0.out (ints .u64 L12))
  have HN0 := hidden (HZ0.out.row L12)
  replace HZ1 := hidden (HZ1.out.rowOther g12 (ints .u64 L12) (Ne.symm hne01))
  generalize World.setRow U _ _ = U3_1 at *
  refine anyC_one (i := 9) (by kernel_rfl) rfl (fun K' hK => ?_)
  with_reducible refine fl_skip (w' := U3_1.setRow g13 (ints .u64 L13)) ?_ ?_ ?_
  · rfl
  · exact fl_store 42 _ _ rfl g13 0 (ints .u64 L13) (ints .u64 L13) (by subst hA0; kernel_rfl) (by subst hA0; kernel_rfl) 42 _ HZ1.out.heap HI13.out (by rw [ints_size, ints_size, HZ13.out]; decide) (onek .u64 L13) (patch_all _ _ _ (by rw [HZ13.out]; rfl))
  refine hK.out _ _ (below_setRow HB0.out HG1.out _) (fun _ => trivial) ?_
  clear hK K'
  replace HB0 := hidden (below_setRow HB0.out HG1.out (ints .u64 L13))
  replace HN0 := hidden (HN0.out.rowOther g13 (ints .u64 L13) hne01)
  have HN1 := hidden (HZ1.out.row L13)
  generalize World.setRow U3_1 _ _ = U3_2 at *
  refine anyC_done (by kernel_rfl) ?_ _
  subst hA0
  skip
  have Hu_w4 := hidden (Hu_w3.out.below HB0.out)
  have H8_w4 := hidden (H8_w3.out.below HB0.out)
  have H9_w4 := hidden (H9_w3.out.below HB0.out)
  have H10_w4 := hidden (H10_w3.out.below HB0.out)
  have H11_w4 := hidden (H11_w3.out.below HB0.out)
  have Hs_w4 := hidden (Hs_w3.out.below HB0.out)
  have Ht_w4 := hidden (Ht_w3.out.below HB0.out)
  have Hp_w4 := hidden (Hp_w3.out.below HB0.out)
  have Hq_w4 := hidden (Hq_w3.out.below HB0.out)
  have HB_w4 := hidden (HB_w3.out.trans (HB0.out.mono (by have := HB_w3.out.size; have := HN.out; omega)))
  have H12_w4 := HN0
  have H13_w4 := HN1
  clear Hu_w3 H8_w3 H9_w3 H10_w3 H11_w3 Hs_w3 Ht_w3 Hp_w3 Hq_w3 HB_w3 HB0 HBD HN0 HZ0 HG0 HN1 HZ1 HG1
  generalize U3_2 = w4 at *
  -- statement 4
  go_upto_region 4 with fail
  have HBD := hidden ((Below.refl w4.heap.size w4).drew)
  refine region_C 8 (fun U => Below w4.heap.size w4 U) (fun _ => True) (by kernel_rfl) HBD.out trivial (fun hS0 _ => ?_)
  refine anyC_take (i := 0) (v := .agg (ints .u64 L11)) rfl rfl (by decide) (by kernel_rfl) (by kernel_rfl) (by kernel_rfl) (fun _ _ _ h => h) (Or.inl ⟨by rfl, ?_⟩) hS0 (fun _ => trivial) ?_
  · rintro w0 hb0
    exact fl_load 42 _ rfl g11 0 (by kernel_rfl) 42 _ _ (0, 0) _ (H11_w4.out.below hb0).heap Try.underlying42 rfl HI11.out (fun j v h => part_all _ _ j v h)
  refine anyC_take (i := 1) (v := .agg (ints .u64 L8)) rfl rfl (by decide) (by kernel_rfl) (by kernel_rfl) (by kernel_rfl) (fun _ _ _ h => h) (Or.inl ⟨by rfl, ?_⟩) hS0 (fun _ => trivial) ?_
  · rintro w0 hb0
    exact fl_load 42 _ rfl g8 0 (by kernel_rfl) 42 _ _ (0, 0) _ (H8_w4.out.below hb0).heap Try.underlying42 rfl HI8.out (fun j v h => part_all _ _ j v h)
  refine anyC_take (i := 3) (v := .agg (ints .u64 L10)) rfl rfl (by decide) (by kernel_rfl) (by kernel_rfl) (by kernel_rfl) (fun _ _ _ h => h) (Or.inl ⟨by rfl, ?_⟩) hS0 (fun _ => trivial) ?_
  · rintro w0 hb0
    exact fl_load 42 _ rfl g10 0 (by kernel_rfl) 42 _ _ (0, 0) _ (H10_w4.out.below hb0).heap Try.underlying42 rfl HI10.out (fun j v h => part_all _ _ j v h)
  refine anyC_take (i := 4) (v := .agg (ints .u64 L9)) rfl rfl (by decide) (by kernel_rfl) (by kernel_rfl) (by kernel_rfl) (fun _ _ _ h => h) (Or.inl ⟨by rfl, ?_⟩) hS0 (fun _ => trivial) ?_
  · rintro w0 hb0
    exact fl_load 42 _ rfl g9 0 (by kernel_rfl) 42 _ _ (0, 0) _ (H9_w4.out.below hb0).heap Try.underlying42 rfl HI9.out (fun j v h => part_all _ _ j v h)
  generalize hl0 : Array.setIfInBounds (α := Bool) _ _ _ = l0
  generalize hA0 : Act.put _ _ _ = A0
  refine anyC_run w4 .u64 42 (List.replicate 5 0) 2 2 stL3 (fun v p => ((((A0.put (some 47) (v 0)).put (some 50) (v 1)).put (some 14) (p 0)).put (some 15) (p 1))) (fun k x => if k = 0 then Res m1 ((xC - xD) * (xA + xB)) x else if k = 1 then Res m1 ((xC + xD) * (xA - xB)) x else True) [2, 5] [6, 7] (by kernel_rfl) (fun U hb => ⟨hb, trivial⟩) ?_ ?_ ?_ l0 A0 (fun _ => undef) (fun _ => undef) (by rw [← hl0]; kernel_rfl) (by subst hA0; kernel_rfl) w4.drew HBD.out _ (by subst hl0; decide +kernel)
  · intro k v p U hk hr hb Φ h
    have h3 : k = 0 ∨ k = 1 := by omega
    rcases h3 with rfl | rfl
    · refine wpOp_step rfl (fun K' hK => ?_)
      refine fl_call rfl (f := 20) (args := #[.agg (ints .u64 L11), .agg (ints .u64 L8)]) (by subst hA0; kernel_rfl) (prod_c L11 L8 HL11.out HL8.out U) (fun x U' hx => hK _ _ ?_)
      have e := h x U' (by have hx1 := hx.1; rw [HF11.eq, HF8.eq] at hx1; exact hx1) hx.2
      have e2 : (((((A0.put (some 47) (v 0)).put (some 50) (v 1)).put (some 14) (p 0)).put (some 15) (p 1))).put (some 47) x = ((((A0.put (some 47) x).put (some 50) (v 1)).put (some 14) (p 0)).put (some 15) (p 1)) := by subst hA0; kernel_rfl
      exact (congrArg (fun a => Φ a U') e2).mpr e
    · refine wpOp_step rfl (fun K' hK => ?_)
      refine fl_call rfl (f := 20) (args := #[.agg (ints .u64 L10), .agg (ints .u64 L9)]) (by subst hA0; kernel_rfl) (prod_c L10 L9 HL10.out HL9.out U) (fun x U' hx => hK _ _ ?_)
      have e := h x U' (by have hx1 := hx.1; rw [HF10.eq, HF9.eq] at hx1; exact hx1) hx.2
      have e2 : (((((A0.put (some 47) (v 0)).put (some 50) (v 1)).put (some 14) (p 0)).put (some 15) (p 1))).put (some 50) x = ((((A0.put (some 47) (v 0)).put (some 50) x).put (some 14) (p 0)).put (some 15) (p 1)) := by subst hA0; kernel_rfl
      exact (congrArg (fun a => Φ a U') e2).mpr e
  · intro j v p U hj Φ h
    have h3 : j = 0 ∨ j = 1 := by omega
    rcases h3 with rfl | rfl
    · refine wpOp_step rfl (fun K' hK => ?_)
      refine fl_exec rfl (v := .pointer (some ⟨U.heap.size, 0, none⟩)) (w' := U.alloc (.cells (ints .u64 (List.replicate 5 0)) 42)) (by kernel_rfl) (hK _ _ ?_)
      have e2 : (((((A0.put (some 47) (v 0)).put (some 50) (v 1)).put (some 14) (p 0)).put (some 15) (p 1))).put (some 14) (.pointer (some ⟨U.heap.size, 0, none⟩)) = ((((A0.put (some 47) (v 0)).put (some 50) (v 1)).put (some 14) (.pointer (some ⟨U.heap.size, 0, none⟩))).put (some 15) (p 1)) := by subst hA0; kernel_rfl
      exact (congrArg (fun a => Φ a _) e2).mpr h
    · refine wpOp_step rfl (fun K' hK => ?_)
      refine fl_exec rfl (v := .pointer (some ⟨U.heap.size, 0, none⟩)) (w' := U.alloc (.cells (ints .u64 (List.replicate 5 0)) 42)) (by kernel_rfl) (hK _ _ ?_)
      have e2 : (((((A0.put (some 47) (v 0)).put (some 50) (v 1)).put (some 14) (p 0)).put (some 15) (p 1))).put (some 15) (.pointer (some ⟨U.heap.size, 0, none⟩)) = ((((A0.put (some 47) (v 0)).put (some 50) (v 1)).put (some 14) (p 0)).put (some 15) (.pointer (some ⟨U.heap.size, 0, none⟩))) := by subst hA0; kernel_rfl
      exact (congrArg (fun a => Φ a _) e2).mpr h
  intro v p U hr hb hp hne n0 hn0
  obtain ⟨L14, e0, hl14, hf14⟩ := hr 0 (by decide)
  have HL14 := hidden hl14
  have HF14 := Is.mk hf14
  have HI14 := hidden (infoE L14 hl14.len)
  have HZ14 := hidden hl14.len
  clear hl14 hf14
  obtain ⟨L15, e1, hl15, hf15⟩ := hr 1 (by decide)
  have HL15 := hidden hl15
  have HF15 := Is.mk hf15
  have HI15 := hidden (infoE L15 hl15.len)
  have HZ15 := hidden hl15.len
  clear hl15 hf15
  obtain ⟨g14, d0, hg0, hz0⟩ := hp 0 (by decide)
  have HZ0 := hidden hz0
  have HG0 := hidden hg0
  have HGG14 : Hid (n + 1 + 1 + 1 + 1 < g14) := by have := hg0; have := Hq_w4.out.lt; show _ < _; omega
  obtain ⟨g15, d1, hg1, hz1⟩ := hp 1 (by decide)
  have HZ1 := hidden hz1
  have HG1 := hidden hg1
  have HGG15 : Hid (n + 1 + 1 + 1 + 1 < g15) := by have := hg1; have := Hq_w4.out.lt; show _ < _; omega
  have hne01 : g14 ≠ g15 := fun e => hne 0 1 (by decide) (by decide) (by decide) (by rw [d0, d1, e])
  obtain ⟨n0, rfl⟩ : ∃ m, n0 = m + 2 := ⟨n0 - 2, by have : cnt (stL3 2 (bitsOf 2 fun _ => true)) = 2 := (by decide +kernel); omega⟩
  simp only [e0, e1, d0, d1]
  clear hr hp hne hn0 e0 e1 d0 hz0 hg0 d1 hz1 hg1
  have HB0 := hidden hb
  clear hb hS0
  refine anyC_one (i := 8) (by kernel_rfl) rfl (fun K' hK => ?_)
  with_reducible refine fl_skip (w' := U.setRow g14 (ints .u64 L14)) ?_ ?_ ?_
  · rfl
  · exact fl_store 42 _ _ rfl g14 0 (ints .u64 L14) (ints .u64 L14) (by subst hA0; kernel_rfl) (by subst hA0; kernel_rfl) 42 _ HZ0.out.heap HI14.out (by rw [ints_size, ints_size, HZ14.out]; decide) (onek .u64 L14) (patch_all _ _ _ (by rw [HZ14.out]; rfl))
  refine hK.out _ _ (below_setRow HB0.out HG0.out _) (fun _ => trivial) ?_
  clear hK K'
  replace HB0 := hidden (below_setRow HB0.out HG0.out (ints .u64 L14))
  have HN0 := hidden (HZ0.out.row L14)
  replace HZ1 := hidden (HZ1.out.rowOther g14 (ints .u64 L14) (Ne.symm hne01))
  generalize World.setRow U _ _ = U4_1 at *
  refine anyC_one (i := 9) (by kernel_rfl) rfl (fun K' hK => ?_)
  with_reducible refine fl_skip (w' := U4_1.setRow g15 (ints .u64 L15)) ?_ ?_ ?_
  · rfl
  · exact fl_store 42 _ _ rfl g15 0 (ints .u64 L15) (ints .u64 L15) (by subst hA0; kernel_rfl) (by subst hA0; kernel_rfl) 42 _ HZ1.out.heap HI15.out (by rw [ints_size, ints_size, HZ15.out]; decide) (onek .u64 L15) (patch_all _ _ _ (by rw [HZ15.out]; rfl))
  refine hK.out _ _ (below_setRow HB0.out HG1.out _) (fun _ => trivial) ?_
  clear hK K'
  replace HB0 := hidden (below_setRow HB0.out HG1.out (ints .u64 L15))
  replace HN0 := hidden (HN0.out.rowOther g15 (ints .u64 L15) hne01)
  have HN1 := hidden (HZ1.out.row L15)
  generalize World.setRow U4_1 _ _ = U4_2 at *
  refine anyC_done (by kernel_rfl) ?_ _
  subst hA0
  skip
  have Hu_w5 := hidden (Hu_w4.out.below HB0.out)
  have H8_w5 := hidden (H8_w4.out.below HB0.out)
  have H9_w5 := hidden (H9_w4.out.below HB0.out)
  have H10_w5 := hidden (H10_w4.out.below HB0.out)
  have H11_w5 := hidden (H11_w4.out.below HB0.out)
  have H12_w5 := hidden (H12_w4.out.below HB0.out)
  have H13_w5 := hidden (H13_w4.out.below HB0.out)
  have Hs_w5 := hidden (Hs_w4.out.below HB0.out)
  have Ht_w5 := hidden (Ht_w4.out.below HB0.out)
  have Hp_w5 := hidden (Hp_w4.out.below HB0.out)
  have Hq_w5 := hidden (Hq_w4.out.below HB0.out)
  have HB_w5 := hidden (HB_w4.out.trans (HB0.out.mono (by have := HB_w4.out.size; have := HN.out; omega)))
  have H14_w5 := HN0
  have H15_w5 := HN1
  clear Hu_w4 H8_w4 H9_w4 H10_w4 H11_w4 H12_w4 H13_w4 Hs_w4 Ht_w4 Hp_w4 Hq_w4 HB_w4 HB0 HBD HN0 HZ0 HG0 HN1 HZ1 HG1
  generalize U4_2 = w5 at *
  -- statement 5
  go_upto_region 5 with fail
  have HBD := hidden ((Below.refl w5.heap.size w5).drew)
  refine region_C 12 (fun U => Below w5.heap.size w5 U) (fun _ => True) (by kernel_rfl) HBD.out trivial (fun hS0 _ => ?_)
  refine anyC_take (i := 0) (v := .agg (ints .u64 L12)) rfl rfl (by decide) (by kernel_rfl) (by kernel_rfl) (by kernel_rfl) (fun _ _ _ h => h) (Or.inl ⟨by rfl, ?_⟩) hS0 (fun _ => trivial) ?_
  · rintro w0 hb0
    exact fl_load 42 _ rfl g12 0 (by kernel_rfl) 42 _ _ (0, 0) _ (H12_w5.out.below hb0).heap Try.underlying42 rfl HI12.out (fun j v h => part_all _ _ j v h)
  refine anyC_take (i := 1) (v := .agg (ints .u64 L13)) rfl rfl (by decide) (by kernel_rfl) (by kernel_rfl) (by kernel_rfl) (fun _ _ _ h => h) (Or.inl ⟨by rfl, ?_⟩) hS0 (fun _ => trivial) ?_
  · rintro w0 hb0
    exact fl_load 42 _ rfl g13 0 (by kernel_rfl) 42 _ _ (0, 0) _ (H13_w5.out.below hb0).heap Try.underlying42 rfl HI13.out (fun j v h => part_all _ _ j v h)
  refine anyC_take (i := 3) (v := .agg (ints .u64 L14)) rfl rfl (by decide) (by kernel_rfl) (by kernel_rfl) (by kernel_rfl) (fun _ _ _ h => h) (Or.inl ⟨by rfl, ?_⟩) hS0 (fun _ => trivial) ?_
  · rintro w0 hb0
    exact fl_load 42 _ rfl g14 0 (by kernel_rfl) 42 _ _ (0, 0) _ (H14_w5.out.below hb0).heap Try.underlying42 rfl HI14.out (fun j v h => part_all _ _ j v h)
  refine anyC_take (i := 4) (v := .agg (ints .u64 L15)) rfl rfl (by decide) (by kernel_rfl) (by kernel_rfl) (by kernel_rfl) (fun _ _ _ h => h) (Or.inl ⟨by rfl, ?_⟩) hS0 (fun _ => trivial) ?_
  · rintro w0 hb0
    exact fl_load 42 _ rfl g15 0 (by kernel_rfl) 42 _ _ (0, 0) _ (H15_w5.out.below hb0).heap Try.underlying42 rfl HI15.out (fun j v h => part_all _ _ j v h)
  refine anyC_take (i := 6) (v := .agg (ints .u64 L14)) rfl rfl (by decide) (by kernel_rfl) (by kernel_rfl) (by kernel_rfl) (fun _ _ _ h => h) (Or.inl ⟨by rfl, ?_⟩) hS0 (fun _ => trivial) ?_
  · rintro w0 hb0
    exact fl_load 42 _ rfl g14 0 (by kernel_rfl) 42 _ _ (0, 0) _ (H14_w5.out.below hb0).heap Try.underlying42 rfl HI14.out (fun j v h => part_all _ _ j v h)
  refine anyC_take (i := 7) (v := .agg (ints .u64 L15)) rfl rfl (by decide) (by kernel_rfl) (by kernel_rfl) (by kernel_rfl) (fun _ _ _ h => h) (Or.inl ⟨by rfl, ?_⟩) hS0 (fun _ => trivial) ?_
  · rintro w0 hb0
    exact fl_load 42 _ rfl g15 0 (by kernel_rfl) 42 _ _ (0, 0) _ (H15_w5.out.below hb0).heap Try.underlying42 rfl HI15.out (fun j v h => part_all _ _ j v h)
  generalize hl0 : Array.setIfInBounds (α := Bool) _ _ _ = l0
  generalize hA0 : Act.put _ _ _ = A0
  refine anyC_run w5 .u64 42 (List.replicate 5 0) 3 3 stL5 (fun v p => ((((((A0.put (some 53) (v 0)).put (some 56) (v 1)).put (some 59) (v 2)).put (some 16) (p 0)).put (some 17) (p 1)).put (some 18) (p 2))) (fun k x => if k = 0 then Res m2 (((xA + xB) * (xA + xB)) - ((xA - xB) * (xA - xB))) x else if k = 1 then Res m2 (((xC - xD) * (xA + xB)) + ((xC + xD) * (xA - xB))) x else if k = 2 then Res m2 (((xC - xD) * (xA + xB)) - ((xC + xD) * (xA - xB))) x else True) [2, 5, 8] [9, 10, 11] (by kernel_rfl) (fun U hb => ⟨hb, trivial⟩) ?_ ?_ ?_ l0 A0 (fun _ => undef) (fun _ => undef) (by rw [← hl0]; kernel_rfl) (by subst hA0; kernel_rfl) w5.drew HBD.out _ (by subst hl0; decide +kernel)
  · intro k v p U hk hr hb Φ h
    have h3 : k = 0 ∨ k = 1 ∨ k = 2 := by omega
    rcases h3 with rfl | rfl | rfl
    · refine wpOp_step rfl (fun K' hK => ?_)
      refine fl_call rfl (f := 33) (args := #[.agg (ints .u64 L12), .agg (ints .u64 L13)]) (by subst hA0; kernel_rfl) (dif_c L12 L13 HL12.out HL13.out U) (fun x U' hx => hK _ _ ?_)
      have e := h x U' (by have hx1 := hx.1; rw [HF12.eq, HF13.eq] at hx1; exact hx1) hx.2
      have e2 : (((((((A0.put (some 53) (v 0)).put (some 56) (v 1)).put (some 59) (v 2)).put (some 16) (p 0)).put (some 17) (p 1)).put (some 18) (p 2))).put (some 53) x = ((((((A0.put (some 53) x).put (some 56) (v 1)).put (some 59) (v 2)).put (some 16) (p 0)).put (some 17) (p 1)).put (some 18) (p 2)) := by subst hA0; kernel_rfl
      exact (congrArg (fun a => Φ a U') e2).mpr e
    · refine wpOp_step rfl (fun K' hK => ?_)
      refine fl_call rfl (f := 32) (args := #[.agg (ints .u64 L14), .agg (ints .u64 L15)]) (by subst hA0; kernel_rfl) (sum_c L14 L15 HL14.out HL15.out U) (fun x U' hx => hK _ _ ?_)
      have e := h x U' (by have hx1 := hx.1; rw [HF14.eq, HF15.eq] at hx1; exact hx1) hx.2
      have e2 : (((((((A0.put (some 53) (v 0)).put (some 56) (v 1)).put (some 59) (v 2)).put (some 16) (p 0)).put (some 17) (p 1)).put (some 18) (p 2))).put (some 56) x = ((((((A0.put (some 53) (v 0)).put (some 56) x).put (some 59) (v 2)).put (some 16) (p 0)).put (some 17) (p 1)).put (some 18) (p 2)) := by subst hA0; kernel_rfl
      exact (congrArg (fun a => Φ a U') e2).mpr e
    · refine wpOp_step rfl (fun K' hK => ?_)
      refine fl_call rfl (f := 33) (args := #[.agg (ints .u64 L14), .agg (ints .u64 L15)]) (by subst hA0; kernel_rfl) (dif_c L14 L15 HL14.out HL15.out U) (fun x U' hx => hK _ _ ?_)
      have e := h x U' (by have hx1 := hx.1; rw [HF14.eq, HF15.eq] at hx1; exact hx1) hx.2
      have e2 : (((((((A0.put (some 53) (v 0)).put (some 56) (v 1)).put (some 59) (v 2)).put (some 16) (p 0)).put (some 17) (p 1)).put (some 18) (p 2))).put (some 59) x = ((((((A0.put (some 53) (v 0)).put (some 56) (v 1)).put (some 59) x).put (some 16) (p 0)).put (some 17) (p 1)).put (some 18) (p 2)) := by subst hA0; kernel_rfl
      exact (congrArg (fun a => Φ a U') e2).mpr e
  · intro j v p U hj Φ h
    have h3 : j = 0 ∨ j = 1 ∨ j = 2 := by omega
    rcases h3 with rfl | rfl | rfl
    · refine wpOp_step rfl (fun K' hK => ?_)
      refine fl_exec rfl (v := .pointer (some ⟨U.heap.size, 0, none⟩)) (w' := U.alloc (.cells (ints .u64 (List.replicate 5 0)) 42)) (by kernel_rfl) (hK _ _ ?_)
      have e2 : (((((((A0.put (some 53) (v 0)).put (some 56) (v 1)).put (some 59) (v 2)).put (some 16) (p 0)).put (some 17) (p 1)).put (some 18) (p 2))).put (some 16) (.pointer (some ⟨U.heap.size, 0, none⟩)) = ((((((A0.put (some 53) (v 0)).put (some 56) (v 1)).put (some 59) (v 2)).put (some 16) (.pointer (some ⟨U.heap.size, 0, none⟩))).put (some 17) (p 1)).put (some 18) (p 2)) := by subst hA0; kernel_rfl
      exact (congrArg (fun a => Φ a _) e2).mpr h
    · refine wpOp_step rfl (fun K' hK => ?_)
      refine fl_exec rfl (v := .pointer (some ⟨U.heap.size, 0, none⟩)) (w' := U.alloc (.cells (ints .u64 (List.replicate 5 0)) 42)) (by kernel_rfl) (hK _ _ ?_)
      have e2 : (((((((A0.put (some 53) (v 0)).put (some 56) (v 1)).put (some 59) (v 2)).put (some 16) (p 0)).put (some 17) (p 1)).put (some 18) (p 2))).put (some 17) (.pointer (some ⟨U.heap.size, 0, none⟩)) = ((((((A0.put (some 53) (v 0)).put (some 56) (v 1)).put (some 59) (v 2)).put (some 16) (p 0)).put (some 17) (.pointer (some ⟨U.heap.size, 0, none⟩))).put (some 18) (p 2)) := by subst hA0; kernel_rfl
      exact (congrArg (fun a => Φ a _) e2).mpr h
    · refine wpOp_step rfl (fun K' hK => ?_)
      refine fl_exec rfl (v := .pointer (some ⟨U.heap.size, 0, none⟩)) (w' := U.alloc (.cells (ints .u64 (List.replicate 5 0)) 42)) (by kernel_rfl) (hK _ _ ?_)
      have e2 : (((((((A0.put (some 53) (v 0)).put (some 56) (v 1)).put (some 59) (v 2)).put (some 16) (p 0)).put (some 17) (p 1)).put (some 18) (p 2))).put (some 18) (.pointer (some ⟨U.heap.size, 0, none⟩)) = ((((((A0.put (some 53) (v 0)).put (some 56) (v 1)).put (some 59) (v 2)).put (some 16) (p 0)).put (some 17) (p 1)).put (some 18) (.pointer (some ⟨U.heap.size, 0, none⟩))) := by subst hA0; kernel_rfl
      exact (congrArg (fun a => Φ a _) e2).mpr h
  intro v p U hr hb hp hne n0 hn0
  obtain ⟨L16, e0, hl16, hf16⟩ := hr 0 (by decide)
  have HL16 := hidden hl16
  have HF16 := Is.mk hf16
  have HI16 := hidden (infoE L16 hl16.len)
  have HZ16 := hidden hl16.len
  clear hl16 hf16
  obtain ⟨L17, e1, hl17, hf17⟩ := hr 1 (by decide)
  have HL17 := hidden hl17
  have HF17 := Is.mk hf17
  have HI17 := hidden (infoE L17 hl17.len)
  have HZ17 := hidden hl17.len
  clear hl17 hf17
  obtain ⟨L18, e2, hl18, hf18⟩ := hr 2 (by decide)
  have HL18 := hidden hl18
  have HF18 := Is.mk hf18
  have HI18 := hidden (infoE L18 hl18.len)
  have HZ18 := hidden hl18.len
  clear hl18 hf18
  obtain ⟨g16, d0, hg0, hz0⟩ := hp 0 (by decide)
  have HZ0 := hidden hz0
  have HG0 := hidden hg0
  have HGG16 : Hid (n + 1 + 1 + 1 + 1 < g16) := by have := hg0; have := Hq_w5.out.lt; show _ < _; omega
  obtain ⟨g17, d1, hg1, hz1⟩ := hp 1 (by decide)
  have HZ1 := hidden hz1
  have HG1 := hidden hg1
  have HGG17 : Hid (n + 1 + 1 + 1 + 1 < g17) := by have := hg1; have := Hq_w5.out.lt; show _ < _; omega
  obtain ⟨g18, d2, hg2, hz2⟩ := hp 2 (by decide)
  have HZ2 := hidden hz2
  have HG2 := hidden hg2
  have HGG18 : Hid (n + 1 + 1 + 1 + 1 < g18) := by have := hg2; have := Hq_w5.out.lt; show _ < _; omega
  have hne01 : g16 ≠ g17 := fun e => hne 0 1 (by decide) (by decide) (by decide) (by rw [d0, d1, e])
  have hne02 : g16 ≠ g18 := fun e => hne 0 2 (by decide) (by decide) (by decide) (by rw [d0, d2, e])
  have hne12 : g17 ≠ g18 := fun e => hne 1 2 (by decide) (by decide) (by decide) (by rw [d1, d2, e])
  obtain ⟨n0, rfl⟩ : ∃ m, n0 = m + 3 := ⟨n0 - 3, by have : cnt (stL5 3 (bitsOf 3 fun _ => true)) = 3 := (by decide +kernel); omega⟩
  simp only [e0, e1, e2, d0, d1, d2]
  clear hr hp hne hn0 e0 e1 e2 d0 hz0 hg0 d1 hz1 hg1 d2 hz2 hg2
  have HB0 := hidden hb
  clear hb hS0
  refine anyC_one (i := 12) (by kernel_rfl) rfl (fun K' hK => ?_)
  with_reducible refine fl_skip (w' := U.setRow g16 (ints .u64 L16)) ?_ ?_ ?_
  · rfl
  · exact fl_store 42 _ _ rfl g16 0 (ints .u64 L16) (ints .u64 L16) (by subst hA0; kernel_rfl) (by subst hA0; kernel_rfl) 42 _ HZ0.out.heap HI16.out (by rw [ints_size, ints_size, HZ16.out]; decide) (onek .u64 L16) (patch_all _ _ _ (by rw [HZ16.out]; rfl))
  refine hK.out _ _ (below_setRow HB0.out HG0.out _) (fun _ => trivial) ?_
  clear hK K'
  replace HB0 := hidden (below_setRow HB0.out HG0.out (ints .u64 L16))
  have HN0 := hidden (HZ0.out.row L16)
  replace HZ1 := hidden (HZ1.out.rowOther g16 (ints .u64 L16) (Ne.symm hne01))
  replace HZ2 := hidden (HZ2.out.rowOther g16 (ints .u64 L16) (Ne.symm hne02))
  generalize World.setRow U _ _ = U5_1 at *
  refine anyC_one (i := 13) (by kernel_rfl) rfl (fun K' hK => ?_)
  with_reducible refine fl_skip (w' := U5_1.setRow g17 (ints .u64 L17)) ?_ ?_ ?_
  · rfl
  · exact fl_store 42 _ _ rfl g17 0 (ints .u64 L17) (ints .u64 L17) (by subst hA0; kernel_rfl) (by subst hA0; kernel_rfl) 42 _ HZ1.out.heap HI17.out (by rw [ints_size, ints_size, HZ17.out]; decide) (onek .u64 L17) (patch_all _ _ _ (by rw [HZ17.out]; rfl))
  refine hK.out _ _ (below_setRow HB0.out HG1.out _) (fun _ => trivial) ?_
  clear hK K'
  replace HB0 := hidden (below_setRow HB0.out HG1.out (ints .u64 L17))
  replace HN0 := hidden (HN0.out.rowOther g17 (ints .u64 L17) hne01)
  have HN1 := hidden (HZ1.out.row L17)
  replace HZ2 := hidden (HZ2.out.rowOther g17 (ints .u64 L17) (Ne.symm hne12))
  generalize World.setRow U5_1 _ _ = U5_2 at *
  refine anyC_one (i := 14) (by kernel_rfl) rfl (fun K' hK => ?_)
  with_reducible refine fl_skip (w' := U5_2.setRow g18 (ints .u64 L18)) ?_ ?_ ?_
  · rfl
  · exact fl_store 42 _ _ rfl g18 0 (ints .u64 L18) (ints .u64 L18) (by subst hA0; kernel_rfl) (by subst hA0; kernel_rfl) 42 _ HZ2.out.heap HI18.out (by rw [ints_size, ints_size, HZ18.out]; decide) (onek .u64 L18) (patch_all _ _ _ (by rw [HZ18.out]; rfl))
  refine hK.out _ _ (below_setRow HB0.out HG2.out _) (fun _ => trivial) ?_
  clear hK K'
  replace HB0 := hidden (below_setRow HB0.out HG2.out (ints .u64 L18))
  replace HN0 := hidden (HN0.out.rowOther g18 (ints .u64 L18) hne02)
  replace HN1 := hidden (HN1.out.rowOther g18 (ints .u64 L18) hne12)
  have HN2 := hidden (HZ2.out.row L18)
  generalize World.setRow U5_2 _ _ = U5_3 at *
  refine anyC_done (by kernel_rfl) ?_ _
  subst hA0
  skip
  have Hu_w6 := hidden (Hu_w5.out.below HB0.out)
  have H8_w6 := hidden (H8_w5.out.below HB0.out)
  have H9_w6 := hidden (H9_w5.out.below HB0.out)
  have H10_w6 := hidden (H10_w5.out.below HB0.out)
  have H11_w6 := hidden (H11_w5.out.below HB0.out)
  have H12_w6 := hidden (H12_w5.out.below HB0.out)
  have H13_w6 := hidden (H13_w5.out.below HB0.out)
  have H14_w6 := hidden (H14_w5.out.below HB0.out)
  have H15_w6 := hidden (H15_w5.out.below HB0.out)
  have Hs_w6 := hidden (Hs_w5.out.below HB0.out)
  have Ht_w6 := hidden (Ht_w5.out.below HB0.out)
  have Hp_w6 := hidden (Hp_w5.out.below HB0.out)
  have Hq_w6 := hidden (Hq_w5.out.below HB0.out)
  have HB_w6 := hidden (HB_w5.out.trans (HB0.out.mono (by have := HB_w5.out.size; have := HN.out; omega)))
  have H16_w6 := HN0
  have H17_w6 := HN1
  have H18_w6 := HN2
  clear Hu_w5 H8_w5 H9_w5 H10_w5 H11_w5 H12_w5 H13_w5 H14_w5 H15_w5 Hs_w5 Ht_w5 Hp_w5 Hq_w5 HB_w5 HB0 HBD HN0 HZ0 HG0 HN1 HZ1 HG1 HN2 HZ2 HG2
  generalize U5_3 = w6 at *
  -- statement 6
  go_upto_region 6 with fail
  have HBD := hidden ((Below.refl w6.heap.size w6).drew)
  have HS_V0 := hidden (⟨H12_w6.out.drew, H13_w6.out.drew, H16_w6.out.drew⟩ : Wn .u64 w6.drew g12 42 L12 ∧ Wn .u64 w6.drew g13 42 L13 ∧ Wn .u64 w6.drew g16 42 L16)
  refine region_C 11 (fun U => Wn .u64 U g12 42 L12 ∧ Wn .u64 U g13 42 L13 ∧ Wn .u64 U g16 42 L16) (fun _ => True) (by kernel_rfl) HS_V0.out trivial (fun hS0 _ => ?_)
  refine anyC_take (i := 0) (v := .agg (ints .u64 L12)) rfl rfl (by decide) (by kernel_rfl) (by kernel_rfl) (by kernel_rfl) (fun _ _ _ h => h) (Or.inl ⟨by rfl, ?_⟩) hS0 (fun _ => trivial) ?_
  · rintro w0 ⟨q12, q13, q16⟩
    exact fl_load 42 _ rfl g12 0 (by kernel_rfl) 42 _ _ (0, 0) _ q12.heap Try.underlying42 rfl HI12.out (fun j v h => part_all _ _ j v h)
  refine anyC_take (i := 1) (v := .agg (ints .u64 L13)) rfl rfl (by decide) (by kernel_rfl) (by kernel_rfl) (by kernel_rfl) (fun _ _ _ h => h) (Or.inl ⟨by rfl, ?_⟩) hS0 (fun _ => trivial) ?_
  · rintro w0 ⟨q12, q13, q16⟩
    exact fl_load 42 _ rfl g13 0 (by kernel_rfl) 42 _ _ (0, 0) _ q13.heap Try.underlying42 rfl HI13.out (fun j v h => part_all _ _ j v h)
  refine anyC_take (i := 3) (v := .agg (ints .u64 L16)) rfl rfl (by decide) (by kernel_rfl) (by kernel_rfl) (by kernel_rfl) (fun _ _ _ h => h) (Or.inl ⟨by rfl, ?_⟩) hS0 (fun _ => trivial) ?_
  · rintro w0 ⟨q12, q13, q16⟩
    exact fl_load 42 _ rfl g16 0 (by kernel_rfl) 42 _ _ (0, 0) _ q16.heap Try.underlying42 rfl HI16.out (fun j v h => part_all _ _ j v h)
  refine anyC_take (i := 4) (v := .agg (ints .u64 L12)) rfl rfl (by decide) (by kernel_rfl) (by kernel_rfl) (by kernel_rfl) (fun _ _ _ h => h) (Or.inl ⟨by rfl, ?_⟩) hS0 (fun _ => trivial) ?_
  · rintro w0 ⟨q12, q13, q16⟩
    exact fl_load 42 _ rfl g12 0 (by kernel_rfl) 42 _ _ (0, 0) _ q12.heap Try.underlying42 rfl HI12.out (fun j v h => part_all _ _ j v h)
  refine anyC_take (i := 6) (v := .agg (ints .u64 L16)) rfl rfl (by decide) (by kernel_rfl) (by kernel_rfl) (by kernel_rfl) (fun _ _ _ h => h) (Or.inl ⟨by rfl, ?_⟩) hS0 (fun _ => trivial) ?_
  · rintro w0 ⟨q12, q13, q16⟩
    exact fl_load 42 _ rfl g16 0 (by kernel_rfl) 42 _ _ (0, 0) _ q16.heap Try.underlying42 rfl HI16.out (fun j v h => part_all _ _ j v h)
  refine anyC_take (i := 5) (v := .agg (ints .u64 [121665, 0, 0, 0, 0])) rfl rfl (by decide) (by kernel_rfl) (by kernel_rfl) (by kernel_rfl) (fun _ _ _ h => h) (Or.inl ⟨by rfl, ?_⟩) hS0 (fun _ => trivial) ?_
  · intro w0 _; kernel_rfl
  have HBB_V0 := HBD
  clear hS0 HBD
  obtain ⟨V0, hV0⟩ : ∃ V, V = w6.drew := ⟨_, rfl⟩
  rw [← hV0] at HBB_V0 HS_V0 ⊢
  clear hV0
  refine anyC_one (i := 2) (by kernel_rfl) rfl (fun K' hK => ?_)
  refine fl_call rfl (f := 20) (args := #[.agg (ints .u64 L12), .agg (ints .u64 L13)]) (by kernel_rfl) (prod_c L12 L13 HL12.out.up HL13.out.up V0) ?_
  rintro x62 V1 ⟨⟨L62, rfl, hl62, hf62⟩, hbb⟩
  have HL62 := hidden hl62
  rw [HF12.eq, HF13.eq] at hf62
  have HF62 : Is (fe L62) (((xA + xB) * (xA + xB)) * ((xA - xB) * (xA - xB))) := Is.mk hf62
  have HI62 := hidden (infoE L62 hl62.len)
  have HZ62 := hidden hl62.len
  have HBB_V1 := hidden (HBB_V0.out.trans (hbb.mono HBB_V0.out.size))
  have HS_V1 := hidden (⟨HS_V0.out.1.below hbb, HS_V0.out.2.1.below hbb, HS_V0.out.2.2.below hbb⟩ : Wn .u64 V1 g12 42 L12 ∧ Wn .u64 V1 g13 42 L13 ∧ Wn .u64 V1 g16 42 L16)
  refine hK.out _ _ HS_V1.out (fun _ => trivial) ?_
  clear hK K' hl62 hf62 hbb HBB_V0 HS_V0
  refine anyC_take (i := 10) (v := .pointer (some ⟨n + 1, 0, none⟩)) rfl rfl (by decide) (by kernel_rfl) (by kernel_rfl) (by kernel_rfl) (fun _ _ _ h => h) (Or.inl ⟨by rfl, ?_⟩) HS_V1.out (fun _ => trivial) ?_
  · intro w0 _; kernel_rfl
  refine anyC_one (i := 7) (by kernel_rfl) rfl (fun K' hK => ?_)
  refine fl_call rfl (f := 20) (args := #[.agg (ints .u64 [121665, 0, 0, 0, 0]), .agg (ints .u64 L16)]) (by kernel_rfl) (prod_c [121665, 0, 0, 0, 0] L16 HLK.out HL16.out V1) ?_
  rintro x67 V2 ⟨⟨L67, rfl, hl67, hf67⟩, hbb⟩
  have HL67 := hidden hl67
  rw [HFK.eq, HF16.eq] at hf67
  have HF67 : Is (fe L67) (121665 * (((xA + xB) * (xA + xB)) - ((xA - xB) * (xA - xB)))) := Is.mk hf67
  have HI67 := hidden (infoE L67 hl67.len)
  have HZ67 := hidden hl67.len
  have HBB_V2 := hidden (HBB_V1.out.trans (hbb.mono HBB_V1.out.size))
  have HS_V2 := hidden (⟨HS_V1.out.1.below hbb, HS_V1.out.2.1.below hbb, HS_V1.out.2.2.below hbb⟩ : Wn .u64 V2 g12 42 L12 ∧ Wn .u64 V2 g13 42 L13 ∧ Wn .u64 V2 g16 42 L16)
  refine hK.out _ _ HS_V2.out (fun _ => trivial) ?_
  clear hK K' hl67 hf67 hbb HBB_V1 HS_V1
  refine anyC_one (i := 8) (by kernel_rfl) rfl (fun K' hK => ?_)
  refine fl_call rfl (f := 32) (args := #[.agg (ints .u64 L12), .agg (ints .u64 L67)]) (by kernel_rfl) (sum_c L12 L67 HL12.out HL67.out V2) ?_
  rintro x68 V3 ⟨⟨L68, rfl, hl68, hf68⟩, hbb⟩
  have HL68 := hidden hl68
  rw [HF12.eq, HF67.eq] at hf68
  have HF68 : Is (fe L68) (((xA + xB) * (xA + xB)) + 121665 * (((xA + xB) * (xA + xB)) - ((xA - xB) * (xA - xB)))) := Is.mk hf68
  have HI68 := hidden (infoE L68 hl68.len)
  have HZ68 := hidden hl68.len
  have HBB_V3 := hidden (HBB_V2.out.trans (hbb.mono HBB_V2.out.size))
  have HS_V3 := hidden (⟨HS_V2.out.1.below hbb, HS_V2.out.2.1.below hbb, HS_V2.out.2.2.below hbb⟩ : Wn .u64 V3 g12 42 L12 ∧ Wn .u64 V3 g13 42 L13 ∧ Wn .u64 V3 g16 42 L16)
  refine hK.out _ _ HS_V3.out (fun _ => trivial) ?_
  clear hK K' hl68 hf68 hbb HBB_V2 HS_V2
  refine anyC_one (i := 9) (by kernel_rfl) rfl (fun K' hK => ?_)
  refine fl_call rfl (f := 20) (args := #[.agg (ints .u64 L16), .agg (ints .u64 L68)]) (by kernel_rfl) (prod_c L16 L68 HL16.out HL68.out V3) ?_
  rintro x69 V4 ⟨⟨L69, rfl, hl69, hf69⟩, hbb⟩
  have HL69 := hidden hl69
  rw [HF16.eq, HF68.eq] at hf69
  have HF69 : Is (fe L69) ((((xA + xB) * (xA + xB)) - ((xA - xB) * (xA - xB))) * (((xA + xB) * (xA + xB)) + 121665 * (((xA + xB) * (xA + xB)) - ((xA - xB) * (xA - xB))))) := Is.mk hf69
  have HI69 := hidden (infoE L69 hl69.len)
  have HZ69 := hidden hl69.len
  have HBB_V4 := hidden (HBB_V3.out.trans (hbb.mono HBB_V3.out.size))
  have HS_V4 := hidden (⟨HS_V3.out.1.below hbb, HS_V3.out.2.1.below hbb, HS_V3.out.2.2.below hbb⟩ : Wn .u64 V4 g12 42 L12 ∧ Wn .u64 V4 g13 42 L13 ∧ Wn .u64 V4 g16 42 L16)
  refine hK.out _ _ HS_V4.out (fun _ => trivial) ?_
  clear hK K' hl69 hf69 hbb HBB_V3 HS_V3
  have HX0 := hidden (Hs_w6.out.below HBB_V4.out)
  refine anyC_one (i := 11) (by kernel_rfl) rfl (fun K' hK => ?_)
  with_reducible refine fl_skip (w' := V4.setRow (n + 1) (ints .u64 (L62 ++ LB))) ?_ ?_ ?_
  · rfl
  · exact fl_store 42 _ _ rfl (n + 1) 0 (ints .u64 L62) (ints .u64 (L62 ++ LB)) (by kernel_rfl) (by kernel_rfl) 45 _ HX0.out.heap HI62.out (by rw [ints_size, ints_size, List.length_append, HZ62.out, HLN.out.1]; omega) (onek .u64 L62) (patch_l _ _ _ _ (by rw [HZ62.out, HLN.out.1]))
  have HSA := hidden (⟨HS_V4.out.1.rowOther (n + 1) (ints .u64 (L62 ++ LB)) (by have := HGG12.out; omega), HS_V4.out.2.1.rowOther (n + 1) (ints .u64 (L62 ++ LB)) (by have := HGG13.out; omega), HS_V4.out.2.2.rowOther (n + 1) (ints .u64 (L62 ++ LB)) (by have := HGG16.out; omega)⟩ : Wn .u64 (V4.setRow (n + 1) (ints .u64 (L62 ++ LB))) g12 42 L12 ∧ Wn .u64 (V4.setRow (n + 1) (ints .u64 (L62 ++ LB))) g13 42 L13 ∧ Wn .u64 (V4.setRow (n + 1) (ints .u64 (L62 ++ LB))) g16 42 L16)
  refine hK.out _ _ HSA.out (fun _ => trivial) ?_
  clear hK K'
  have HX1 := hidden (HX0.out.row (L62 ++ LB))
  have HG1 : Hid (V4.grownBy (V4.setRow (n + 1) (ints .u64 (L62 ++ LB))) (some (n + 1))) := hidden (grown_setRow _ _ _)
  generalize World.setRow V4 _ _ = Y1 at *
  refine anyC_take (i := 12) (v := .pointer (some ⟨n + 1, 5, none⟩)) rfl rfl (by decide) (by kernel_rfl) (by kernel_rfl) (by kernel_rfl) (fun _ _ _ h => h) (Or.inl ⟨by rfl, ?_⟩) HSA.out (fun _ => trivial) ?_
  · intro w0 _; kernel_rfl
  refine anyC_one (i := 13) (by kernel_rfl) rfl (fun K' hK => ?_)
  with_reducible refine fl_skip (w' := Y1.setRow (n + 1) (ints .u64 (L62 ++ L69))) ?_ ?_ ?_
  · rfl
  · exact fl_store 42 _ _ rfl (n + 1) 5 (ints .u64 L69) (ints .u64 (L62 ++ L69)) (by kernel_rfl) (by kernel_rfl) 45 _ HX1.out.heap HI69.out (by rw [ints_size, ints_size, List.length_append, HZ62.out, HZ69.out, HLM.out.1]; decide) (onek .u64 L69) (patch_r _ _ _ _ 5 HZ62.out (by rw [HZ69.out, HLM.out.1]))
  refine hK.out _ _ ⟨HSA.out.1.rowOther (n + 1) (ints .u64 (L62 ++ L69)) (by have := HGG12.out; omega), HSA.out.2.1.rowOther (n + 1) (ints .u64 (L62 ++ L69)) (by have := HGG13.out; omega), HSA.out.2.2.rowOther (n + 1) (ints .u64 (L62 ++ L69)) (by have := HGG16.out; omega)⟩ (fun _ => trivial) ?_
  clear hK K'
  have HX2 := hidden (HX1.out.row (L62 ++ L69))
  have HG2 : Hid (Y1.grownBy (Y1.setRow (n + 1) (ints .u64 (L62 ++ L69))) (some (n + 1))) := hidden (grown_setRow _ _ _)
  generalize World.setRow Y1 _ _ = w7 at *
  refine anyC_done (by kernel_rfl) ?_ _
  have Hp_w7 := hidden (((Hp_w6.out.below HBB_V4.out).grown HG1.out (fun e => absurd (Option.some.inj e) (by omega))).grown HG2.out (fun e => absurd (Option.some.inj e) (by omega)))
  have Hq_w7 := hidden (((Hq_w6.out.below HBB_V4.out).grown HG1.out (fun e => absurd (Option.some.inj e) (by omega))).grown HG2.out (fun e => absurd (Option.some.inj e) (by omega)))
  have Hu_w7 := hidden (((Hu_w6.out.below HBB_V4.out).grown HG1.out (fun e => absurd (Option.some.inj e) (by omega))).grown HG2.out (fun e => absurd (Option.some.inj e) (by omega)))
  have H17_w7 := hidden (((H17_w6.out.below HBB_V4.out).grown HG1.out (fun e => absurd (Option.some.inj e) (by have := HGG17.out; omega))).grown HG2.out (fun e => absurd (Option.some.inj e) (by have := HGG17.out; omega)))
  have H18_w7 := hidden (((H18_w6.out.below HBB_V4.out).grown HG1.out (fun e => absurd (Option.some.inj e) (by have := HGG18.out; omega))).grown HG2.out (fun e => absurd (Option.some.inj e) (by have := HGG18.out; omega)))
  have Ht_w7 := hidden (((Ht_w6.out.below HBB_V4.out).grown HG1.out (fun e => absurd (Option.some.inj e) (by omega))).grown HG2.out (fun e => absurd (Option.some.inj e) (by omega)))
  have Hs_w7 := HX2
  have HB_w7 := hidden (((HB_w6.out.trans (HBB_V4.out.mono (by have := HB_w6.out.size; have := HN.out; omega))).grown HG1.out (by have := HX0.out.lt; have := HB_w6.out.size; omega) (fun k e => by cases e; omega)).grown HG2.out (by have := HX1.out.lt; omega) (fun k e => by cases e; omega))
  clear HX0 HX1 HX2 HG1 HG2 HSA HS_V4 HBB_V4 HB_w6 Hu_w6 H8_w6 H9_w6 H10_w6 H11_w6 H12_w6 H13_w6 H14_w6 H15_w6 H16_w6 H17_w6 H18_w6 Hs_w6 Ht_w6 Hp_w6 Hq_w6
  -- statement 7
  go_upto_region 7 with fail
  have HBD := hidden ((Below.refl w7.heap.size w7).drew)
  have HS_V0 := hidden (⟨H17_w7.out.drew, Hu_w7.out.drew, H18_w7.out.drew⟩ : Wn .u64 w7.drew g17 42 L17 ∧ Wn .u64 w7.drew n 42 LU ∧ Wn .u64 w7.drew g18 42 L18)
  refine region_C 9 (fun U => Wn .u64 U g17 42 L17 ∧ Wn .u64 U n 42 LU ∧ Wn .u64 U g18 42 L18) (fun _ => True) (by kernel_rfl) HS_V0.out trivial (fun hS0 _ => ?_)
  refine anyC_take (i := 0) (v := .agg (ints .u64 L17)) rfl rfl (by decide) (by kernel_rfl) (by kernel_rfl) (by kernel_rfl) (fun _ _ _ h => h) (Or.inl ⟨by rfl, ?_⟩) hS0 (fun _ => trivial) ?_
  · rintro w0 ⟨q17, qu, q18⟩
    exact fl_load 42 _ rfl g17 0 (by kernel_rfl) 42 _ _ (0, 0) _ q17.heap Try.underlying42 rfl HI17.out (fun j v h => part_all _ _ j v h)
  refine anyC_take (i := 1) (v := .agg (ints .u64 L17)) rfl rfl (by decide) (by kernel_rfl) (by kernel_rfl) (by kernel_rfl) (fun _ _ _ h => h) (Or.inl ⟨by rfl, ?_⟩) hS0 (fun _ => trivial) ?_
  · rintro w0 ⟨q17, qu, q18⟩
    exact fl_load 42 _ rfl g17 0 (by kernel_rfl) 42 _ _ (0, 0) _ q17.heap Try.underlying42 rfl HI17.out (fun j v h => part_all _ _ j v h)
  refine anyC_take (i := 3) (v := .agg (ints .u64 LU)) rfl rfl (by decide) (by kernel_rfl) (by kernel_rfl) (by kernel_rfl) (fun _ _ _ h => h) (Or.inl ⟨by rfl, ?_⟩) hS0 (fun _ => trivial) ?_
  · rintro w0 ⟨q17, qu, q18⟩
    exact fl_load 42 _ rfl n 0 (by kernel_rfl) 42 _ _ (0, 0) _ qu.heap Try.underlying42 rfl HIU.out (fun j v h => part_all _ _ j v h)
  refine anyC_take (i := 4) (v := .agg (ints .u64 L18)) rfl rfl (by decide) (by kernel_rfl) (by kernel_rfl) (by kernel_rfl) (fun _ _ _ h => h) (Or.inl ⟨by rfl, ?_⟩) hS0 (fun _ => trivial) ?_
  · rintro w0 ⟨q17, qu, q18⟩
    exact fl_load 42 _ rfl g18 0 (by kernel_rfl) 42 _ _ (0, 0) _ q18.heap Try.underlying42 rfl HI18.out (fun j v h => part_all _ _ j v h)
  refine anyC_take (i := 5) (v := .agg (ints .u64 L18)) rfl rfl (by decide) (by kernel_rfl) (by kernel_rfl) (by kernel_rfl) (fun _ _ _ h => h) (Or.inl ⟨by rfl, ?_⟩) hS0 (fun _ => trivial) ?_
  · rintro w0 ⟨q17, qu, q18⟩
    exact fl_load 42 _ rfl g18 0 (by kernel_rfl) 42 _ _ (0, 0) _ q18.heap Try.underlying42 rfl HI18.out (fun j v h => part_all _ _ j v h)
  have HBB_V0 := HBD
  clear hS0 HBD
  obtain ⟨V0, hV0⟩ : ∃ V, V = w7.drew := ⟨_, rfl⟩
  rw [← hV0] at HBB_V0 HS_V0 ⊢
  clear hV0
  refine anyC_one (i := 2) (by kernel_rfl) rfl (fun K' hK => ?_)
  refine fl_call rfl (f := 20) (args := #[.agg (ints .u64 L17), .agg (ints .u64 L17)]) (by kernel_rfl) (prod_c L17 L17 HL17.out HL17.out V0) ?_
  rintro x74 V1 ⟨⟨L74, rfl, hl74, hf74⟩, hbb⟩
  have HL74 := hidden hl74
  rw [HF17.eq] at hf74
  have HF74 : Is (fe L74) ((((xC - xD) * (xA + xB)) + ((xC + xD) * (xA - xB))) * (((xC - xD) * (xA + xB)) + ((xC + xD) * (xA - xB)))) := Is.mk hf74
  have HI74 := hidden (infoE L74 hl74.len)
  have HZ74 := hidden hl74.len
  have HBB_V1 := hidden (HBB_V0.out.trans (hbb.mono HBB_V0.out.size))
  have HS_V1 := hidden (⟨HS_V0.out.1.below hbb, HS_V0.out.2.1.below hbb, HS_V0.out.2.2.below hbb⟩ : Wn .u64 V1 g17 42 L17 ∧ Wn .u64 V1 n 42 LU ∧ Wn .u64 V1 g18 42 L18)
  refine hK.out _ _ HS_V1.out (fun _ => trivial) ?_
  clear hK K' hl74 hf74 hbb HBB_V0 HS_V0
  refine anyC_take (i := 8) (v := .pointer (some ⟨n + 1 + 1, 0, none⟩)) rfl rfl (by decide) (by kernel_rfl) (by kernel_rfl) (by kernel_rfl) (fun _ _ _ h => h) (Or.inl ⟨by rfl, ?_⟩) HS_V1.out (fun _ => trivial) ?_
  · intro w0 _; kernel_rfl
  refine anyC_one (i := 6) (by kernel_rfl) rfl (fun K' hK => ?_)
  refine fl_call rfl (f := 20) (args := #[.agg (ints .u64 L18), .agg (ints .u64 L18)]) (by kernel_rfl) (prod_c L18 L18 HL18.out HL18.out V1) ?_
  rintro x78 V2 ⟨⟨L78, rfl, hl78, hf78⟩, hbb⟩
  have HL78 := hidden hl78
  rw [HF18.eq] at hf78
  have HF78 : Is (fe L78) ((((xC - xD) * (xA + xB)) - ((xC + xD) * (xA - xB))) * (((xC - xD) * (xA + xB)) - ((xC + xD) * (xA - xB)))) := Is.mk hf78
  have HI78 := hidden (infoE L78 hl78.len)
  have HZ78 := hidden hl78.len
  have HBB_V2 := hidden (HBB_V1.out.trans (hbb.mono HBB_V1.out.size))
  have HS_V2 := hidden (⟨HS_V1.out.1.below hbb, HS_V1.out.2.1.below hbb, HS_V1.out.2.2.below hbb⟩ : Wn .u64 V2 g17 42 L17 ∧ Wn .u64 V2 n 42 LU ∧ Wn .u64 V2 g18 42 L18)
  refine hK.out _ _ HS_V2.out (fun _ => trivial) ?_
  clear hK K' hl78 hf78 hbb HBB_V1 HS_V1
  refine anyC_one (i := 7) (by kernel_rfl) rfl (fun K' hK => ?_)
  refine fl_call rfl (f := 20) (args := #[.agg (ints .u64 LU), .agg (ints .u64 L78)]) (by kernel_rfl) (prod_c LU L78 HLU.out.up HL78.out.up V2) ?_
  rintro x79 V3 ⟨⟨L79, rfl, hl79, hf79⟩, hbb⟩
  have HL79 := hidden hl79
  rw [HFU.eq, HF78.eq] at hf79
  have HF79 : Is (fe L79) (xU * ((((xC - xD) * (xA + xB)) - ((xC + xD) * (xA - xB))) * (((xC - xD) * (xA + xB)) - ((xC + xD) * (xA - xB))))) := Is.mk hf79
  have HI79 := hidden (infoE L79 hl79.len)
  have HZ79 := hidden hl79.len
  have HBB_V3 := hidden (HBB_V2.out.trans (hbb.mono HBB_V2.out.size))
  have HS_V3 := hidden (⟨HS_V2.out.1.below hbb, HS_V2.out.2.1.below hbb, HS_V2.out.2.2.below hbb⟩ : Wn .u64 V3 g17 42 L17 ∧ Wn .u64 V3 n 42 LU ∧ Wn .u64 V3 g18 42 L18)
  refine hK.out _ _ HS_V3.out (fun _ => trivial) ?_
  clear hK K' hl79 hf79 hbb HBB_V2 HS_V2
  have HX0 := hidden (Ht_w7.out.below HBB_V3.out)
  refine anyC_one (i := 9) (by kernel_rfl) rfl (fun K' hK => ?_)
  with_reducible refine fl_skip (w' := V3.setRow (n + 1 + 1) (ints .u64 (L74 ++ LD))) ?_ ?_ ?_
  · rfl
  · exact fl_store 42 _ _ rfl (n + 1 + 1) 0 (ints .u64 L74) (ints .u64 (L74 ++ LD)) (by kernel_rfl) (by kernel_rfl) 45 _ HX0.out.heap HI74.out (by rw [ints_size, ints_size, List.length_append, HZ74.out, HLN.out.2]; omega) (onek .u64 L74) (patch_l _ _ _ _ (by rw [HZ74.out, HLN.out.2]))
  have HSA := hidden (⟨HS_V3.out.1.rowOther (n + 1 + 1) (ints .u64 (L74 ++ LD)) (by have := HGG17.out; omega), HS_V3.out.2.1.rowOther (n + 1 + 1) (ints .u64 (L74 ++ LD)) (by  omega), HS_V3.out.2.2.rowOther (n + 1 + 1) (ints .u64 (L74 ++ LD)) (by have := HGG18.out; omega)⟩ : Wn .u64 (V3.setRow (n + 1 + 1) (ints .u64 (L74 ++ LD))) g17 42 L17 ∧ Wn .u64 (V3.setRow (n + 1 + 1) (ints .u64 (L74 ++ LD))) n 42 LU ∧ Wn .u64 (V3.setRow (n + 1 + 1) (ints .u64 (L74 ++ LD))) g18 42 L18)
  refine hK.out _ _ HSA.out (fun _ => trivial) ?_
  clear hK K'
  have HX1 := hidden (HX0.out.row (L74 ++ LD))
  have HG1 : Hid (V3.grownBy (V3.setRow (n + 1 + 1) (ints .u64 (L74 ++ LD))) (some (n + 1 + 1))) := hidden (grown_setRow _ _ _)
  generalize World.setRow V3 _ _ = Y1 at *
  refine anyC_take (i := 10) (v := .pointer (some ⟨n + 1 + 1, 5, none⟩)) rfl rfl (by decide) (by kernel_rfl) (by kernel_rfl) (by kernel_rfl) (fun _ _ _ h => h) (Or.inl ⟨by rfl, ?_⟩) HSA.out (fun _ => trivial) ?_
  · intro w0 _; kernel_rfl
  refine anyC_one (i := 11) (by kernel_rfl) rfl (fun K' hK => ?_)
  with_reducible refine fl_skip (w' := Y1.setRow (n + 1 + 1) (ints .u64 (L74 ++ L79))) ?_ ?_ ?_
  · rfl
  · exact fl_store 42 _ _ rfl (n + 1 + 1) 5 (ints .u64 L79) (ints .u64 (L74 ++ L79)) (by kernel_rfl) (by kernel_rfl) 45 _ HX1.out.heap HI79.out (by rw [ints_size, ints_size, List.length_append, HZ74.out, HZ79.out, HLM.out.2]; decide) (onek .u64 L79) (patch_r _ _ _ _ 5 HZ74.out (by rw [HZ79.out, HLM.out.2]))
  refine hK.out _ _ ⟨HSA.out.1.rowOther (n + 1 + 1) (ints .u64 (L74 ++ L79)) (by have := HGG17.out; omega), HSA.out.2.1.rowOther (n + 1 + 1) (ints .u64 (L74 ++ L79)) (by  omega), HSA.out.2.2.rowOther (n + 1 + 1) (ints .u64 (L74 ++ L79)) (by have := HGG18.out; omega)⟩ (fun _ => trivial) ?_
  clear hK K'
  have HX2 := hidden (HX1.out.row (L74 ++ L79))
  have HG2 : Hid (Y1.grownBy (Y1.setRow (n + 1 + 1) (ints .u64 (L74 ++ L79))) (some (n + 1 + 1))) := hidden (grown_setRow _ _ _)
  generalize World.setRow Y1 _ _ = w8 at *
  refine anyC_done (by kernel_rfl) ?_ _
  have Hp_w8 := hidden (((Hp_w7.out.below HBB_V3.out).grown HG1.out (fun e => absurd (Option.some.inj e) (by omega))).grown HG2.out (fun e => absurd (Option.some.inj e) (by omega)))
  have Hq_w8 := hidden (((Hq_w7.out.below HBB_V3.out).grown HG1.out (fun e => absurd (Option.some.inj e) (by omega))).grown HG2.out (fun e => absurd (Option.some.inj e) (by omega)))
  have Hs_w8 := hidden (((Hs_w7.out.below HBB_V3.out).grown HG1.out (fun e => absurd (Option.some.inj e) (by omega))).grown HG2.out (fun e => absurd (Option.some.inj e) (by omega)))
  have Ht_w8 := HX2
  have HB_w8 := hidden (((HB_w7.out.trans (HBB_V3.out.mono (by have := HB_w7.out.size; have := HN.out; omega))).grown HG1.out (by have := HX0.out.lt; have := HB_w7.out.size; omega) (fun k e => by cases e; omega)).grown HG2.out (by have := HX1.out.lt; omega) (fun k e => by cases e; omega))
  clear HX0 HX1 HX2 HG1 HG2 HSA HS_V3 HBB_V3 HB_w7 Hu_w7 H17_w7 H18_w7 Hs_w7 Ht_w7 Hp_w7 Hq_w7
  -- statement 8
  go_upto_region 8 with fail
  have HV1 : Hid ((L62 ++ L69).length = 10) := by show _ = _; rw [List.length_append, HZ62.out, HZ69.out]
  have HV2 : Hid ((L74 ++ L79).length = 10) := by show _ = _; rw [List.length_append, HZ74.out, HZ79.out]
  have HI1 := hidden (infoF _ HV1.out)
  have HI2 := hidden (infoF _ HV2.out)
  have HZ1 : Hid ((ints .u64 (List.replicate 10 (0 : Int))).size = (ints .u64 (L62 ++ L69)).size) := by show _ = _; rw [ints_size, ints_size, HV1.out]; rfl
  have HZ2 : Hid ((ints .u64 (List.replicate 10 (0 : Int))).size = (ints .u64 (L74 ++ L79)).size) := by show _ = _; rw [ints_size, ints_size, HV2.out]; rfl
  refine region_C 2 (fun U => Wn .u64 U (n + 1) 45 (L62 ++ L69) ∧ Wn .u64 U (n + 1 + 1) 45 (L74 ++ L79)) (fun _ => True) (by kernel_rfl) ⟨Hs_w8.out.drew, Ht_w8.out.drew⟩ trivial (fun hS0 _ => ?_)
  have HP9 := hidden Hp_w8.out.drew
  have HR9 := hidden Hq_w8.out.drew
  have HB9 := hidden HB_w8.out.drew
  have HV9 := hidden Hs_w8.out.drew
  have HW9 := hidden Ht_w8.out.drew
  clear Hs_w8 Ht_w8 Hp_w8 Hq_w8 HB_w8
  obtain ⟨V0, hV0⟩ : ∃ V, V = w8.drew := ⟨_, rfl⟩
  rw [← hV0] at HP9 HR9 HB9 HV9 HW9 hS0 ⊢
  clear hV0
  refine anyC_take (i := 0) (v := .agg (ints .u64 (L62 ++ L69))) rfl rfl (by decide) (by kernel_rfl) (by kernel_rfl) (by kernel_rfl) (fun _ _ _ h => h) (Or.inl ⟨by rfl, ?_⟩) hS0 (fun _ => trivial) ?_
  · rintro w0 ⟨s0, s1⟩
    exact fl_load 45 _ rfl (n + 1) 0 (by kernel_rfl) 45 _ _ (0, 0) _ s0.heap Try.underlying45 rfl HI1.out (fun j v h => part_all _ _ j v h)
  refine anyC_take (i := 1) (v := .agg (ints .u64 (L74 ++ L79))) rfl rfl (by decide) (by kernel_rfl) (by kernel_rfl) (by kernel_rfl) (fun _ _ _ h => h) (Or.inl ⟨by rfl, ?_⟩) hS0 (fun _ => trivial) ?_
  · rintro w0 ⟨s0, s1⟩
    exact fl_load 45 _ rfl (n + 1 + 1) 0 (by kernel_rfl) 45 _ _ (0, 0) _ s1.heap Try.underlying45 rfl HI2.out (fun j v h => part_all _ _ j v h)
  refine anyC_one (i := 2) (by kernel_rfl) rfl (fun K' hK => ?_)
  with_reducible refine fl_skip (w' := V0.setRow (n + 1 + 1 + 1) (ints .u64 (L62 ++ L69))) ?_ ?_ ?_
  · rfl
  · exact fl_store 45 _ _ rfl (n + 1 + 1 + 1) 0 (ints .u64 (L62 ++ L69)) (ints .u64 (L62 ++ L69)) (by kernel_rfl) (by kernel_rfl) 45 _ HP9.out.heap HI1.out (by rw [HZ1.out]; omega) (onek .u64 _) (patch_whole _ _ HZ1.out)
  refine hK.out _ _ ⟨HV9.out.rowOther _ _ (by omega), HW9.out.rowOther _ _ (by omega)⟩ (fun _ => trivial) ?_
  clear hK K'
  have HR10 : Hid (Wn .u64 (V0.setRow (n + 1 + 1 + 1) (ints .u64 (L62 ++ L69))) (n + 1 + 1 + 1 + 1) 45 (List.replicate 10 0)) := HR9.out.rowOther _ _ (by omega)
  have HP10 := hidden (HP9.out.row (L62 ++ L69))
  have HV10 : Hid (Wn .u64 (V0.setRow (n + 1 + 1 + 1) (ints .u64 (L62 ++ L69))) (n + 1) 45 (L62 ++ L69)) := HV9.out.rowOther _ _ (by omega)
  have HW10 : Hid (Wn .u64 (V0.setRow (n + 1 + 1 + 1) (ints .u64 (L62 ++ L69))) (n + 1 + 1) 45 (L74 ++ L79)) := HW9.out.rowOther _ _ (by omega)
  have HB10 := hidden (below_setRow HB9.out (show n ≤ n + 1 + 1 + 1 by omega) (ints .u64 (L62 ++ L69)))
  clear HV9 HW9 HP9 HR9 HB9 hS0
  generalize World.setRow V0 _ _ = V1 at *
  refine anyC_one (i := 3) (by kernel_rfl) rfl (fun K' hK => ?_)
  with_reducible refine fl_skip (w' := V1.setRow (n + 1 + 1 + 1 + 1) (ints .u64 (L74 ++ L79))) ?_ ?_ ?_
  · rfl
  · exact fl_store 45 _ _ rfl (n + 1 + 1 + 1 + 1) 0 (ints .u64 (L74 ++ L79)) (ints .u64 (L74 ++ L79)) (by kernel_rfl) (by kernel_rfl) 45 _ HR10.out.heap HI2.out (by rw [HZ2.out]; omega) (onek .u64 _) (patch_whole _ _ HZ2.out)
  refine hK.out _ _ ⟨HV10.out.rowOther _ _ (by omega), HW10.out.rowOther _ _ (by omega)⟩ (fun _ => trivial) ?_
  clear hK K'
  have HR11 := hidden (HR10.out.row (L74 ++ L79))
  have HP11 : Hid (Wn .u64 (V1.setRow (n + 1 + 1 + 1 + 1) (ints .u64 (L74 ++ L79))) (n + 1 + 1 + 1) 45 (L62 ++ L69)) := HP10.out.rowOther _ _ (by omega)
  have HB11 := hidden (below_setRow HB10.out (show n ≤ n + 1 + 1 + 1 + 1 by omega) (ints .u64 (L74 ++ L79)))
  clear HV10 HW10 HP10 HR10 HB10
  generalize World.setRow V1 _ _ = V2 at *
  refine anyC_done (by kernel_rfl) ?_ _
  go_wp2
  refine bodyPost_ret (results_two rfl _ _ (n + 1 + 1 + 1) (n + 1 + 1 + 1 + 1) 45 _ _ _ _ _ (by kernel_rfl) (by kernel_rfl) HP11.out.heap HR11.out.heap Try.underlying45 rfl HI1.out HI2.out) rfl ?_
  exact ⟨L62, L69, L74, L79, rfl, HL62.out, HL69.out, HL74.out, HL79.out, HF62.eq, HF69.eq, HF74.eq, HF79.eq, by rw [HN.out]; exact HB11.out⟩
end Go.Proofs.Ytilnbmlbahflkaa
