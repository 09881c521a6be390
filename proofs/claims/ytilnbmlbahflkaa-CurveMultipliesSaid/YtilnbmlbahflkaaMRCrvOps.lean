/-
  The document's sums, differences and products with a small number.
-/
import Derived.Test.YtilnbmlbahflkaaMRCrvCar
namespace Go.Proofs.Ytilnbmlbahflkaa
open Go.RowKit
set_option linter.unusedVariables false

/-- The first j digits of X, the others of A. -/
def mixL (X A : List Int) (j : Nat) : List Int := X.take j ++ A.drop j
theorem mixL_zero (X A : List Int) : mixL X A 0 = A := by simp [mixL]
theorem mixL_len (X A : List Int) (j : Nat) (hX : X.length = 16) (hA : A.length = 16) : (mixL X A j).length = 16 := by simp [mixL]; omega
theorem mixL_get (X A : List Int) (j : Nat) (hX : X.length = 16) (hA : A.length = 16) (hj : j < 16) : (mixL X A j).getD j 0 = A.getD j 0 := by
  unfold mixL
  exact getD_mid _ _ _ (by simp; omega)
theorem mixL_succ (X A : List Int) (j : Nat) (hX : X.length = 16) (hA : A.length = 16) (hj : j < 16) : (mixL X A j).set j (X.getD j 0) = mixL X A (j + 1) := by
  unfold mixL
  rw [set_mid _ _ _ _ (by simp; omega) (by omega)]
  congr 1
  rw [List.getD_eq_getElem?_getD, List.getElem?_eq_getElem (by omega), Option.getD_some, List.take_succ_eq_append_getElem (by omega)]
theorem mixL_end (X A : List Int) (hX : X.length = 16) (hA : A.length = 16) : mixL X A 16 = X := by
  unfold mixL
  rw [List.take_of_length_le (by omega), List.drop_of_length_le (by omega), List.append_nil]
theorem addL_get (A B : List Int) (hA : A.length = 16) (hB : B.length = 16) (j : Nat) (hj : j < 16) : (addL A B).getD j 0 = A.getD j 0 + B.getD j 0 := by
  unfold addL
  simp [List.getD_eq_getElem?_getD, List.getElem?_zipWith, show j < A.length by omega, show j < B.length by omega]

set_option maxHeartbeats 1600000 in
set_option maxRecDepth 100000 in
theorem rsmall_any (A : List Int) (hA : Ld 65536 A) (w : World) :
    Calls Try.prog 26 #[.agg (ints .u64 A), .int .u64 121665] w fun e w' => e = .returned (.agg (ints .u64 (carL (A.map (fun y => y * 121665))))) ∧ Below w.heap.size w w' := by
  have hXL := scale_ld hA
  have HG : Hid (∀ j, j < 16 → (A.map (fun y => y * 121665)).getD j 0 = A.getD j 0 * 121665) := hidden (fun j (hj : j < 16) => by have := hA.len; simp [List.getD_eq_getElem?_getD, show j < A.length by omega])
  generalize A.map (fun y => y * 121665) = X at *
  have HCAR := hidden (rcarry_any X hXL)
  have HM0 := Is.mk (mixL_zero X A)
  have HML := hidden (fun j => mixL_len X A j hXL.len hA.len)
  have HMS := hidden (fun j (hj : j < 16) => mixL_succ X A j hXL.len hA.len hj)
  have HMG := hidden (fun j (hj : j < 16) => mixL_get X A j hXL.len hA.len hj)
  have HME := Is.mk (mixL_end X A hXL.len hA.len)
  have HXA := hidden (fun j hj => hA.get j hj)
  have HIX := hidden (infoD X hXL.len)
  have HIR := hidden (infoD (carL X) (rndC_len _))
  have HZR := hidden (zero16 (carL X) (rndC_len _))
  generalize carL X = R at *
  clear hA hXL
  go_enter Try.func26, Try.ntmps26
  go_upto_region 1 with fail
  generalize hw1 : World.alloc _ (.cells _ 54) = w1
  have hA : Wn .u64 w1 w.heap.size 54 (mixL X A 0) := by
    rw [← hw1, HM0.eq]
    exact (Wn.new .u64 w 54 A _ rfl).alloc _
  have hZ : Wn .u64 w1 (w.heap.size + 1) 54 (List.replicate 16 0) := by
    rw [← hw1]
    exact Wn.new' .u64 _ 54 (List.replicate 16 0) _ rfl _ (by simp)
  have hb : Below w.heap.size w w1 := by
    rw [← hw1]
    exact ((Below.refl _ w).alloc (Nat.le_refl _) _).alloc (by simp) _
  clear hw1
  obtain ⟨n, hn⟩ : ∃ n, w.heap.size = n := ⟨_, rfl⟩
  simp only [hn] at hA hZ hb ⊢
  have HN := hidden hn
  have HA0 := hidden hA
  have HZ0 := hidden hZ
  have HB0 := hidden hb
  clear hA hZ hb hn
  go_wp2
  go_loopw [5] (fun i wr => ∃ j : Nat, j ≤ 16 ∧ i = .int .i64 j ∧ Wn .u64 wr n 54 (mixL X A j) ∧ Wn .u64 wr (n + 1) 54 (List.replicate 16 0) ∧ Below n w wr) (fun i _ => 16 - (intOf i).toNat)
  case atStart => exact ⟨0, by omega, rfl, HA0.out, HZ0.out, HB0.out⟩
  case round =>
    obtain ⟨j, hj, rfl, ha, hz, hb⟩ := hrel
    have HA := hidden ha
    have HZ := hidden hz
    have HB := hidden hb
    clear ha hz hb HA0 HZ0 HB0
    by_cases hlt : j < 16
    · have hxa := HXA.out j hlt
      have hg := HG.out j hlt
      have hs1 := HMS.out j hlt
      have hfx := HA.out.fr j
      have hcx := HA.out.cell j (by rw [HML.out]; exact hlt)
      rw [HMG.out j hlt] at hcx
      rw [hg] at hs1
      have ha2 := HA.out.set j (A.getD j 0 * 121665)
      rw [hs1] at ha2
      have HA2 := hidden ha2
      clear ha2 hs1 hg
      generalize A.getD j 0 = x at *
      have b0 : (j : Int) < 16 := by omega
      have b1 : (0 : Int) ≤ (j : Int) := by omega
      have wr0 : IntKind.u64.wrap (x * 121665) = x * 121665 := by rw [IntKind.wrap_u64]; omega
      go_wp2
      go_roundw
      case rel => exact ⟨j + 1, by omega, by go_num, HA2.out, HZ.out.other _ _ (by simp), HB.out.setCell (Nat.le_refl _) _⟩
      case measure => simp [intOf]; omega
    · have hj5 : j = 16 := by omega
      have hge : ¬ (j : Int) < 16 := by omega
      have hae := HA.out
      rw [hj5, HME.eq] at hae
      have HE := hidden hae
      clear hj5 hae HA
      go_wp2_with (first
        | (refine wpList_load_row rfl 54 _ rfl n rfl 54 _ (0, 0) _ HE.out.heap Try.underlying54 rfl HIX.out ?_)
        | (go_at_call 36; (with_reducible refine (HCAR.out _).mono ?_); rintro e4 w4 ⟨rfl, hb4⟩; have HB4 := hidden hb4; have HZ4 := hidden (HZ.out.below hb4); clear hb4)
        | (refine wpList_store_row rfl 54 _ _ rfl (n + 1) (ints .u64 R) rfl rfl 54 _ HZ4.out.heap HIR.out HZR.out (onek .u64 R) ?_)
        | fail)
      refine bodyPost_ret (results_cell_row rfl _ _ (n + 1) 54 _ _ _ rfl (HZ4.out.row R).heap Try.underlying54 rfl HIR.out) rfl ?_
      exact ⟨rfl, by rw [HN.out]; exact below_setRow (HB.out.trans (HB4.out.mono (by have := HE.out.lt; omega))) (by omega) _⟩
set_option maxHeartbeats 1600000 in
set_option maxRecDepth 100000 in
theorem radd_any (A B : List Int) (hA : Ld 65536 A) (hB : Ld 65536 B) (w : World) :
    Calls Try.prog 23 #[.agg (ints .u64 A), .agg (ints .u64 B)] w fun e w' => e = .returned (.agg (ints .u64 (carL (addL A B)))) ∧ Below w.heap.size w w' := by
  have hXL := add_ld hA hB
  have HG := hidden (fun j (hj : j < 16) => addL_get A B hA.len hB.len j hj)
  generalize addL A B = X at *
  have HCAR := hidden (rcarry_any X hXL)
  have HM0 := Is.mk (mixL_zero X A)
  have HML := hidden (fun j => mixL_len X A j hXL.len hA.len)
  have HMS := hidden (fun j (hj : j < 16) => mixL_succ X A j hXL.len hA.len hj)
  have HMG := hidden (fun j (hj : j < 16) => mixL_get X A j hXL.len hA.len hj)
  have HME := Is.mk (mixL_end X A hXL.len hA.len)
  have HXA := hidden (fun j hj => hA.get j hj)
  have HXB := hidden (fun j hj => hB.get j hj)
  have HBL := Is.mk hB.len
  have HIX := hidden (infoD X hXL.len)
  have HIR := hidden (infoD (carL X) (rndC_len _))
  have HZR := hidden (zero16 (carL X) (rndC_len _))
  generalize carL X = R at *
  clear hA hXL hB
  go_enter Try.func23, Try.ntmps23
  go_upto_region 1 with fail
  generalize hw1 : World.alloc _ (.cells _ 54) = w1
  have hA : Wn .u64 w1 w.heap.size 54 (mixL X A 0) := by
    rw [← hw1, HM0.eq]
    exact ((Wn.new .u64 w 54 A _ rfl).alloc _).alloc _
  have hB : Wn .u64 w1 (w.heap.size + 1) 54 B := by
    rw [← hw1]
    exact (Wn.new' .u64 _ 54 B _ rfl _ (by simp)).alloc _
  have hZ : Wn .u64 w1 (w.heap.size + 1 + 1) 54 (List.replicate 16 0) := by
    rw [← hw1]
    exact Wn.new' .u64 _ 54 (List.replicate 16 0) _ rfl _ (by simp)
  have hb : Below w.heap.size w w1 := by
    rw [← hw1]
    exact (((Below.refl _ w).alloc (Nat.le_refl _) _).alloc (by simp) _).alloc (by simp; omega) _
  clear hw1
  obtain ⟨n, hn⟩ : ∃ n, w.heap.size = n := ⟨_, rfl⟩
  simp only [hn] at hA hB hZ hb ⊢
  have HN := hidden hn
  have HA0 := hidden hA
  have HBB0 := hidden hB
  have HZ0 := hidden hZ
  have HB0 := hidden hb
  clear hA hB hZ hb hn
  go_wp2
  go_loopw [5] (fun i wr => ∃ j : Nat, j ≤ 16 ∧ i = .int .i64 j ∧ Wn .u64 wr n 54 (mixL X A j) ∧ Wn .u64 wr (n + 1) 54 B ∧ Wn .u64 wr (n + 1 + 1) 54 (List.replicate 16 0) ∧ Below n w wr) (fun i _ => 16 - (intOf i).toNat)
  case atStart => exact ⟨0, by omega, rfl, HA0.out, HBB0.out, HZ0.out, HB0.out⟩
  case round =>
    obtain ⟨j, hj, rfl, ha, hbb, hz, hb⟩ := hrel
    have HA := hidden ha
    have HBB := hidden hbb
    have HZ := hidden hz
    have HB := hidden hb
    clear ha hbb hz hb HA0 HBB0 HZ0 HB0
    by_cases hlt : j < 16
    · have hxa := HXA.out j hlt
      have hxb := HXB.out j hlt
      have hfy := HBB.out.fr j
      have hcy := HBB.out.cell j (by rw [HBL.eq]; exact hlt)
      have hg := HG.out j hlt
      have hs1 := HMS.out j hlt
      have hfx := HA.out.fr j
      have hcx := HA.out.cell j (by rw [HML.out]; exact hlt)
      rw [HMG.out j hlt] at hcx
      rw [hg] at hs1
      have ha2 := HA.out.set j (A.getD j 0 + B.getD j 0)
      rw [hs1] at ha2
      have HA2 := hidden ha2
      clear ha2 hs1 hg
      generalize A.getD j 0 = x at *
      generalize B.getD j 0 = y at *
      have b0 : (j : Int) < 16 := by omega
      have b1 : (0 : Int) ≤ (j : Int) := by omega
      have wr0 : IntKind.u64.wrap (x + y) = x + y := by rw [IntKind.wrap_u64]; omega
      go_upto_region 4 with fail
      go_region
      all_goals
        have HA3 := hidden (HA2.out.drew)
        have HBB3 : Hid (Wn .u64 ((wr.setCell ⟨n, j, none⟩ (.int .u64 (x + y))).drew) (n + 1) 54 B) := hidden ((HBB.out.other _ _ (by simp)).drew)
        have HZ3 : Hid (Wn .u64 ((wr.setCell ⟨n, j, none⟩ (.int .u64 (x + y))).drew) (n + 1 + 1) 54 (List.replicate 16 0)) := hidden ((HZ.out.other _ _ (by simp; omega)).drew)
        have HB3 : Hid (Below n w ((wr.setCell ⟨n, j, none⟩ (.int .u64 (x + y))).drew)) := hidden ((HB.out.setCell (Nat.le_refl _) _).drew)
        clear HA2 HA HBB HZ HB hcx hfx hcy hfy wr0
        generalize World.drew _ = w5 at *
        go_wp2
        go_roundw
        case rel => exact ⟨j + 1, by omega, by go_num, HA3.out, HBB3.out, HZ3.out, HB3.out⟩
        case measure => simp [intOf]; omega
    · have hj5 : j = 16 := by omega
      have hge : ¬ (j : Int) < 16 := by omega
      have hae := HA.out
      rw [hj5, HME.eq] at hae
      have HE := hidden hae
      clear hj5 hae HA HBB
      go_wp2_with (first
        | (refine wpList_load_row rfl 54 _ rfl n rfl 54 _ (0, 0) _ HE.out.heap Try.underlying54 rfl HIX.out ?_)
        | (go_at_call 36; (with_reducible refine (HCAR.out _).mono ?_); rintro e4 w4 ⟨rfl, hb4⟩; have HB4 := hidden hb4; have HZ4 := hidden (HZ.out.below hb4); clear hb4)
        | (refine wpList_store_row rfl 54 _ _ rfl (n + 1 + 1) (ints .u64 R) rfl rfl 54 _ HZ4.out.heap HIR.out HZR.out (onek .u64 R) ?_)
        | fail)
      refine bodyPost_ret (results_cell_row rfl _ _ (n + 1 + 1) 54 _ _ _ rfl (HZ4.out.row R).heap Try.underlying54 rfl HIR.out) rfl ?_
      exact ⟨rfl, by rw [HN.out]; exact below_setRow (HB.out.trans (HB4.out.mono (by have := HE.out.lt; omega))) (by omega) _⟩
set_option maxHeartbeats 1600000 in
set_option maxRecDepth 100000 in
theorem rsub_any (A B : List Int) (hA : Ld 65536 A) (hB : Ld 65536 B) (w : World) :
    Calls Try.prog 24 #[.agg (ints .u64 A), .agg (ints .u64 B)] w fun e w' => e = .returned (.agg (ints .u64 (carL (negL A B)))) ∧ Below w.heap.size w w' := by
  have hXL := neg_ld hA hB
  have HG := hidden (fun j (hj : j < 16) => negL_get A B hA.len hB.len j hj)
  generalize negL A B = X at *
  have HCAR := hidden (rcarry_any X hXL)
  have HM0 := Is.mk (mixL_zero X A)
  have HML := hidden (fun j => mixL_len X A j hXL.len hA.len)
  have HMS := hidden (fun j (hj : j < 16) => mixL_succ X A j hXL.len hA.len hj)
  have HMG := hidden (fun j (hj : j < 16) => mixL_get X A j hXL.len hA.len hj)
  have HME := Is.mk (mixL_end X A hXL.len hA.len)
  have HXA := hidden (fun j hj => hA.get j hj)
  have HXB := hidden (fun j hj => hB.get j hj)
  have HBL := Is.mk hB.len
  have HIX := hidden (infoD X hXL.len)
  have HIR := hidden (infoD (carL X) (rndC_len _))
  have HZR := hidden (zero16 (carL X) (rndC_len _))
  generalize carL X = R at *
  clear hA hXL hB
  go_enter Try.func24, Try.ntmps24
  go_upto_region 1 with fail
  generalize hw1 : World.alloc _ (.cells _ 54) = w1
  have hA : Wn .u64 w1 w.heap.size 54 (mixL X A 0) := by
    rw [← hw1, HM0.eq]
    exact ((Wn.new .u64 w 54 A _ rfl).alloc _).alloc _
  have hB : Wn .u64 w1 (w.heap.size + 1) 54 B := by
    rw [← hw1]
    exact (Wn.new' .u64 _ 54 B _ rfl _ (by simp)).alloc _
  have hZ : Wn .u64 w1 (w.heap.size + 1 + 1) 54 (List.replicate 16 0) := by
    rw [← hw1]
    exact Wn.new' .u64 _ 54 (List.replicate 16 0) _ rfl _ (by simp)
  have hb : Below w.heap.size w w1 := by
    rw [← hw1]
    exact (((Below.refl _ w).alloc (Nat.le_refl _) _).alloc (by simp) _).alloc (by simp; omega) _
  clear hw1
  obtain ⟨n, hn⟩ : ∃ n, w.heap.size = n := ⟨_, rfl⟩
  simp only [hn] at hA hB hZ hb ⊢
  have HN := hidden hn
  have HA0 := hidden hA
  have HBB0 := hidden hB
  have HZ0 := hidden hZ
  have HB0 := hidden hb
  clear hA hB hZ hb hn
  go_wp2
  go_loopw [5] (fun i wr => ∃ j : Nat, j ≤ 16 ∧ i = .int .i64 j ∧ Wn .u64 wr n 54 (mixL X A j) ∧ Wn .u64 wr (n + 1) 54 B ∧ Wn .u64 wr (n + 1 + 1) 54 (List.replicate 16 0) ∧ Below n w wr) (fun i _ => 16 - (intOf i).toNat)
  case atStart => exact ⟨0, by omega, rfl, HA0.out, HBB0.out, HZ0.out, HB0.out⟩
  case round =>
    obtain ⟨j, hj, rfl, ha, hbb, hz, hb⟩ := hrel
    have HA := hidden ha
    have HBB := hidden hbb
    have HZ := hidden hz
    have HB := hidden hb
    clear ha hbb hz hb HA0 HBB0 HZ0 HB0
    by_cases hlt : j < 16
    · have hxa := HXA.out j hlt
      have hxb := HXB.out j hlt
      have hfy := HBB.out.fr j
      have hcy := HBB.out.cell j (by rw [HBL.eq]; exact hlt)
      have hg := HG.out j hlt
      have hs1 := HMS.out j hlt
      have hfx := HA.out.fr j
      have hcx := HA.out.cell j (by rw [HML.out]; exact hlt)
      rw [HMG.out j hlt] at hcx
      rw [hg] at hs1
      have ha2 := HA.out.set j (A.getD j 0 + subM j - B.getD j 0)
      rw [hs1] at ha2
      have HA2 := hidden ha2
      clear ha2 hs1 hg
      generalize A.getD j 0 = x at *
      generalize B.getD j 0 = y at *
      have b0 : (j : Int) < 16 := by omega
      have b1 : (0 : Int) ≤ (j : Int) := by omega
      have q : (j = 0 ∧ subM j = 262068) ∨ (j ≠ 0 ∧ j < 15 ∧ subM j = 262140) ∨ (j = 15 ∧ subM j = 131068) := by unfold subM; by_cases h0 : j = 0 <;> by_cases h1 : j < 15 <;> simp [h0, h1] <;> omega
      generalize subM j = m at *
      have hm : 131068 ≤ m ∧ m ≤ 262140 := by omega
      have wr0 : IntKind.u64.wrap (x + m) = x + m := by rw [IntKind.wrap_u64]; omega
      have wr1 : IntKind.u64.wrap (x + m - y) = x + m - y := by rw [IntKind.wrap_u64]; omega
      have HA3 := hidden (HA2.out.drew)
      have HBB3 : Hid (Wn .u64 ((wr.setCell ⟨n, j, none⟩ (.int .u64 (x + m - y))).drew) (n + 1) 54 B) := hidden ((HBB.out.other _ _ (by simp)).drew)
      have HZ3 : Hid (Wn .u64 ((wr.setCell ⟨n, j, none⟩ (.int .u64 (x + m - y))).drew) (n + 1 + 1) 54 (List.replicate 16 0)) := hidden ((HZ.out.other _ _ (by simp; omega)).drew)
      have HB3 : Hid (Below n w ((wr.setCell ⟨n, j, none⟩ (.int .u64 (x + m - y))).drew)) := hidden ((HB.out.setCell (Nat.le_refl _) _).drew)
      clear HA2 HA HBB HZ HB
      have q2 : (((j : Int) == 0) = true ∧ m = 262068) ∨ ((((j : Int) == 0) = false ∧ (j : Int) < 15 ∧ m = 262140) ∨ (((j : Int) == 0) = false ∧ ¬ (j : Int) < 15 ∧ m = 131068)) := by
        rcases q with ⟨rfl, h⟩ | ⟨h0, h1, h⟩ | ⟨rfl, h⟩
        · exact Or.inl ⟨rfl, h⟩
        · exact Or.inr (Or.inl ⟨by simp; omega, by omega, h⟩)
        · exact Or.inr (Or.inr ⟨rfl, by omega, h⟩)
      clear q
      rcases q2 with ⟨q0, rfl⟩ | ⟨q0, q1, rfl⟩ | ⟨q0, q1, rfl⟩
      all_goals
        go_upto_region 9 with fail
        go_region
        all_goals
          clear hcx hfx hcy hfy wr0
          generalize World.drew _ = w5 at *
          go_wp2
          go_roundw
          case rel => exact ⟨j + 1, by omega, by go_num, HA3.out, HBB3.out, HZ3.out, HB3.out⟩
          case measure => simp [intOf]; omega
    · have hj5 : j = 16 := by omega
      have hge : ¬ (j : Int) < 16 := by omega
      have hae := HA.out
      rw [hj5, HME.eq] at hae
      have HE := hidden hae
      clear hj5 hae HA HBB
      go_wp2_with (first
        | (refine wpList_load_row rfl 54 _ rfl n rfl 54 _ (0, 0) _ HE.out.heap Try.underlying54 rfl HIX.out ?_)
        | (go_at_call 36; (with_reducible refine (HCAR.out _).mono ?_); rintro e4 w4 ⟨rfl, hb4⟩; have HB4 := hidden hb4; have HZ4 := hidden (HZ.out.below hb4); clear hb4)
        | (refine wpList_store_row rfl 54 _ _ rfl (n + 1 + 1) (ints .u64 R) rfl rfl 54 _ HZ4.out.heap HIR.out HZR.out (onek .u64 R) ?_)
        | fail)
      refine bodyPost_ret (results_cell_row rfl _ _ (n + 1 + 1) 54 _ _ _ rfl (HZ4.out.row R).heap Try.underlying54 rfl HIR.out) rfl ?_
      exact ⟨rfl, by rw [HN.out]; exact below_setRow (HB.out.trans (HB4.out.mono (by have := HE.out.lt; omega))) (by omega) _⟩
end Go.Proofs.Ytilnbmlbahflkaa
