/-
  curve.sum and curve.difference.
-/
import Derived.Test.YtilnbmlbahflkaaMCrvNum
namespace Go.Proofs.Ytilnbmlbahflkaa
open Go.RowKit
set_option linter.unusedVariables false

theorem map_sub (B : List Int) (j : Nat) (hj : j < B.length) : (B.map subT).getD j 0 = subT (B.getD j 0) := by
  simp [List.getD_eq_getElem?_getD, hj]
theorem midA_getlt (A B : List Int) (n j : Nat) (h : A.length = B.length) (hj : j < n) (hn : n ≤ A.length) : (midA A B n).getD j 0 = A.getD j 0 + B.getD j 0 := by
  unfold midA addL
  rw [List.getD_eq_getElem?_getD, List.getElem?_append_left (by simp; omega)]
  simp [List.getD_eq_getElem?_getD, List.getElem?_zipWith, hj, show j < A.length by omega, show j < B.length by omega]

set_option maxHeartbeats 1600000 in
set_option maxRecDepth 100000 in
theorem csum_any (A B : List Int) (hA : A.length = 5) (hB : B.length = 5) (hrA : ∀ x ∈ A, 0 ≤ x ∧ x < 4611686018427387904) (hrB : ∀ x ∈ B, 0 ≤ x ∧ x < 4611686018427387904) (w : World) :
    Calls Try.prog 32 #[.agg (ints .u64 A), .agg (ints .u64 B)] w fun e w' => e = .returned (.agg (ints .u64 (addL A B))) ∧ Below w.heap.size w w' := by
  obtain ⟨i0, hi0, hz0, hz1, hz2⟩ := info_parts infoU64c
  have HIX := hidden (fun (j : Nat) (hj : j < 5) (w' : World) => run_indexN (k := .u64) (P := Try.prog) Try.underlying42 Try.underlying40 hi0 hz1 B hB j hj w')
  have HIB := hidden (infoE B hB)
  obtain ⟨R, hR⟩ : ∃ R, addL A B = R := ⟨_, rfl⟩
  have hRl : R.length = 5 := by rw [← hR, addL_len]; omega
  have HIR := hidden (infoE R hRl)
  have HZR : Hid ((ints .u64 (List.replicate 5 (0 : Int))).size = (ints .u64 R).size) := by show _ = _; rw [ints_size, ints_size, hRl]; rfl
  have HONER := hidden (onek .u64 R)
  have HM0 := Is.mk (midA_zero A B)
  have HML := hidden (fun j (hj : j ≤ 5) => midA_len A B j (by omega) (by omega))
  have HMS := hidden (fun j (hj : j < 5) => midA_succ A B j (by omega) (by omega))
  have HMG := hidden (fun j (hj : j < 5) => midA_get A B j (by omega) (by omega))
  have hme := midA_end A B (by omega)
  rw [hA] at hme
  have HME := Is.mk hme
  have HXA := hidden (fun j (hj : j < 5) => hrA (A.getD j 0) (by rw [List.getD_eq_getElem?_getD]; simp [show j < A.length by omega]))
  have HXB := hidden (fun j (hj : j < 5) => hrB (B.getD j 0) (by rw [List.getD_eq_getElem?_getD]; simp [show j < B.length by omega]))
  have HAL := Is.mk hA
  rw [hR] at HME ⊢
  clear hi0 hz0 hz1 hz2 hRl hR hA hB hrA hrB hme
  generalize hS : ints .u64 B = S at HIX HIB ⊢
  have HSS := Is.mk hS
  clear hS
  go_enter Try.func32, Try.ntmps32
  go_wp2_with (first
    | (refine wpList_load_row rfl 42 _ rfl (w.heap.size + 1) rfl 42 S (0, 0) _ (heap_2nd _ _ _ _ _) Try.underlying42 rfl HIB.out ?_)
    | fail)
  generalize hw1 : World.alloc _ (.cells _ 42) = w1
  have hA : Wn .u64 w1 w.heap.size 42 (midA A B 0) := by
    rw [← hw1, HM0.eq]
    exact ((Wn.new .u64 w 42 A _ rfl).alloc _).alloc _
  have hZ : Wn .u64 w1 (w.heap.size + 1 + 1) 42 (List.replicate 5 0) := by
    rw [← hw1]
    exact Wn.new' .u64 _ 42 (List.replicate 5 0) _ rfl _ (by simp)
  have hb : Below w.heap.size w w1 := by
    rw [← hw1]
    exact (((Below.refl _ w).alloc (Nat.le_refl _) _).alloc (by simp) _).alloc (by simp; omega) _
  clear hw1
  obtain ⟨n, hn⟩ : ∃ n, w.heap.size = n := ⟨_, rfl⟩
  simp only [hn] at hA hZ hb ⊢
  have HN := hidden hn
  have HA0 := hidden hA
  have HZ0 := hidden hZ
  have HB0 := hidden hb
  clear hA hZ hb hn
  go_loopw [8] (fun i wr => ∃ j : Nat, j ≤ 5 ∧ i = .int .i64 j ∧ Wn .u64 wr n 42 (midA A B j) ∧ Wn .u64 wr (n + 1 + 1) 42 (List.replicate 5 0) ∧ Below n w wr) (fun i _ => 5 - (intOf i).toNat)
  case atStart => exact ⟨0, by omega, rfl, HA0.out, HZ0.out, HB0.out⟩
  case round =>
    obtain ⟨j, hj, rfl, ha, hz, hb⟩ := hrel
    have HA := hidden ha
    have HZ := hidden hz
    have HB := hidden hb
    clear ha hz hb HA0 HZ0 HB0
    by_cases hlt : j < 5
    · have hix := HIX.out j hlt
      have hxa := HXA.out j hlt
      have hxb := HXB.out j hlt
      have HS1 := Is.mk (HMS.out j hlt)
      have hfx := HA.out.fr j
      have hcx := HA.out.cell j (by rw [HML.out j hj, HAL.eq]; exact hlt)
      rw [HMG.out j hlt] at hcx
      generalize A.getD j 0 = x at hix hxa HS1 hcx
      generalize B.getD j 0 = y at hix hxb HS1
      have wr0 : IntKind.u64.wrap (x + y) = x + y := by rw [IntKind.wrap_u64]; omega
      have b0 : (j : Int) < 5 := by omega
      have b1 : (0 : Int) ≤ (j : Int) := by omega
      go_wp2
      go_roundw
      case rel => exact ⟨j + 1, by omega, by go_num, by rw [← HS1.eq]; exact HA.out.set j _, HZ.out.other _ _ (by simp; omega), HB.out.setCell (Nat.le_refl _) _⟩
      case measure => simp [intOf]; omega
    · have hj5 : j = 5 := by omega
      have hge : ¬ (j : Int) < 5 := by omega
      have hae := HA.out
      rw [hj5, HME.eq] at hae
      have HE := hidden hae
      clear hj5 hae HA
      have HRR := hidden (HZ.out.row R)
      have HBR := hidden (below_setRow HB.out (show n ≤ n + 1 + 1 by omega) (ints .u64 R))
      go_wp2_with (first
        | (refine wpList_load_row rfl 42 _ rfl n rfl 42 _ (0, 0) _ HE.out.heap Try.underlying42 rfl HIR.out ?_)
        | (refine wpList_store_row rfl 42 _ _ rfl (n + 1 + 1) (ints .u64 R) rfl rfl 42 _ HZ.out.heap HIR.out HZR.out HONER.out ?_)
        | fail)
      refine bodyPost_ret (results_cell_row rfl _ _ (n + 1 + 1) 42 _ _ _ rfl HRR.out.heap Try.underlying42 rfl HIR.out) rfl ?_
      exact ⟨rfl, by rw [HN.out]; exact HBR.out⟩
set_option maxHeartbeats 1600000 in
set_option maxRecDepth 100000 in
theorem cdif_any (A B : List Int) (hA : A.length = 5) (hB : B.length = 5) (hrA : ∀ x ∈ A, 0 ≤ x ∧ x < m1) (hrB : ∀ x ∈ B, 0 ≤ x ∧ x < m1) (w : World) :
    Calls Try.prog 33 #[.agg (ints .u64 A), .agg (ints .u64 B)] w fun e w' => e = .returned (.agg (ints .u64 (subL A B))) ∧ Below w.heap.size w w' := by
  obtain ⟨i0, hi0, hz0, hz1, hz2⟩ := info_parts infoU64c
  have HIX := hidden (fun (j : Nat) (hj : j < 5) (w' : World) => run_indexN (k := .u64) (P := Try.prog) Try.underlying42 Try.underlying40 hi0 hz1 B hB j hj w')
  have HIB := hidden (infoE B hB)
  obtain ⟨R, hR⟩ : ∃ R, subL A B = R := ⟨_, rfl⟩
  have hRl : R.length = 5 := by rw [← hR, subL, List.length_set, addL_len]; simp; omega
  have HIR := hidden (infoE R hRl)
  have HZR : Hid ((ints .u64 (List.replicate 5 (0 : Int))).size = (ints .u64 R).size) := by show _ = _; rw [ints_size, ints_size, hRl]; rfl
  have HONER := hidden (onek .u64 R)
  have HM0 := Is.mk (midA_zero A (B.map subT))
  have HML := hidden (fun j (hj : j ≤ 5) => midA_len A (B.map subT) j (by simp; omega) (by omega))
  have HMS := hidden (fun j (hj : j < 5) => midA_succ A (B.map subT) j (by simp; omega) (by omega))
  have HMG := hidden (fun j (hj : j < 5) => midA_get A (B.map subT) j (by simp; omega) (by omega))
  have hme := midA_end A (B.map subT) (by simp; omega)
  rw [hA] at hme
  have HME := Is.mk hme
  have HXA := hidden (fun j (hj : j < 5) => hrA (A.getD j 0) (by rw [List.getD_eq_getElem?_getD]; simp [show j < A.length by omega]))
  have HXB := hidden (fun j (hj : j < 5) => hrB (B.getD j 0) (by rw [List.getD_eq_getElem?_getD]; simp [show j < B.length by omega]))
  have HAL := Is.mk hA
  have HBM := hidden (fun j (hj : j < 5) => map_sub B j (by omega))
  have hr0 : ((addL A (B.map subT)).getD 0 0 = A.getD 0 0 + subT (B.getD 0 0)) := by
    rw [← hme, midA_getlt A (B.map subT) 5 0 (by simp; omega) (by omega) (by omega), map_sub B 0 (by omega)]
  have hx0 := hrA (A.getD 0 0) (by rw [List.getD_eq_getElem?_getD]; simp [show 0 < A.length by omega])
  have hy0 := hrB (B.getD 0 0) (by rw [List.getD_eq_getElem?_getD]; simp [show 0 < B.length by omega])
  have hq0 : 36 ≤ (addL A (B.map subT)).getD 0 0 ∧ (addL A (B.map subT)).getD 0 0 < 18446744073709551616 := by
    rw [hr0]; unfold subT; unfold m1 at hx0 hy0; omega
  have HQ0 := hidden hq0
  have HSL : Is (subL A B) ((addL A (B.map subT)).set 0 ((addL A (B.map subT)).getD 0 0 - 36)) := ⟨rfl⟩
  have HADL : Hid ((addL A (B.map subT)).length = 5) := by show _ = 5; rw [addL_len]; simp; omega
  clear hr0 hx0 hy0 hq0
  rw [hR] at HSL ⊢
  generalize hAD : addL A (B.map subT) = AD at *
  clear hi0 hz0 hz1 hz2 hRl hR hA hB hrA hrB hme hAD
  generalize hS : ints .u64 B = S at HIX HIB ⊢
  have HSS := Is.mk hS
  clear hS
  go_enter Try.func33, Try.ntmps33
  go_wp2_with (first
    | (refine wpList_load_row rfl 42 _ rfl (w.heap.size + 1) rfl 42 S (0, 0) _ (heap_2nd _ _ _ _ _) Try.underlying42 rfl HIB.out ?_)
    | fail)
  generalize hw1 : World.alloc _ (.cells _ 42) = w1
  have hA : Wn .u64 w1 w.heap.size 42 (midA A (B.map subT) 0) := by
    rw [← hw1, HM0.eq]
    exact ((Wn.new .u64 w 42 A _ rfl).alloc _).alloc _
  have hZ : Wn .u64 w1 (w.heap.size + 1 + 1) 42 (List.replicate 5 0) := by
    rw [← hw1]
    exact Wn.new' .u64 _ 42 (List.replicate 5 0) _ rfl _ (by simp)
  have hb : Below w.heap.size w w1 := by
    rw [← hw1]
    exact (((Below.refl _ w).alloc (Nat.le_refl _) _).alloc (by simp) _).alloc (by simp; omega) _
  clear hw1
  obtain ⟨n, hn⟩ : ∃ n, w.heap.size = n := ⟨_, rfl⟩
  simp only [hn] at hA hZ hb ⊢
  have HN := hidden hn
  have HA0 := hidden hA
  have HZ0 := hidden hZ
  have HB0 := hidden hb
  clear hA hZ hb hn
  go_loopw [8] (fun i wr => ∃ j : Nat, j ≤ 5 ∧ i = .int .i64 j ∧ Wn .u64 wr n 42 (midA A (B.map subT) j) ∧ Wn .u64 wr (n + 1 + 1) 42 (List.replicate 5 0) ∧ Below n w wr) (fun i _ => 5 - (intOf i).toNat)
  case atStart => exact ⟨0, by omega, rfl, HA0.out, HZ0.out, HB0.out⟩
  case round =>
    obtain ⟨j, hj, rfl, ha, hz, hb⟩ := hrel
    have HA := hidden ha
    have HZ := hidden hz
    have HB := hidden hb
    clear ha hz hb HA0 HZ0 HB0
    by_cases hlt : j < 5
    · have hix := HIX.out j hlt
      have hxa := HXA.out j hlt
      have hxb := HXB.out j hlt
      have hs1 := HMS.out j hlt
      rw [HBM.out j hlt] at hs1
      have HS1 := Is.mk hs1
      clear hs1
      have hfx := HA.out.fr j
      have hcx := HA.out.cell j (by rw [HML.out j hj, HAL.eq]; exact hlt)
      rw [HMG.out j hlt] at hcx
      generalize A.getD j 0 = x at hix hxa HS1 hcx
      generalize B.getD j 0 = y at hix hxb HS1
      unfold m1 at hxa hxb
      rw [show subT y = 4503599627370494 - y from rfl] at HS1
      have wr1 : IntKind.u64.wrap (4503599627370494 - y) = 4503599627370494 - y := by rw [IntKind.wrap_u64]; omega
      have wr0 : IntKind.u64.wrap (x + (4503599627370494 - y)) = x + (4503599627370494 - y) := by rw [IntKind.wrap_u64]; omega
      have b0 : (j : Int) < 5 := by omega
      have b1 : (0 : Int) ≤ (j : Int) := by omega
      go_wp2
      go_roundw
      case rel => exact ⟨j + 1, by omega, by go_num, by rw [← HS1.eq]; exact HA.out.set j _, HZ.out.other _ _ (by simp; omega), HB.out.setCell (Nat.le_refl _) _⟩
      case measure => simp [intOf]; omega
    · have hj5 : j = 5 := by omega
      have hge : ¬ (j : Int) < 5 := by omega
      have hae := HA.out
      rw [hj5, HME.eq] at hae
      have HE := hidden hae
      clear hj5 hae HA
      have hcx := HE.out.cell 0 (by rw [HADL.out]; omega)
      have hfx := HE.out.fr 0
      have HE2 := HE.out.set 0 (AD.getD 0 0 - 36)
      rw [← HSL.eq] at HE2
      have hq0 := HQ0.out
      generalize AD.getD 0 0 = z at hcx hq0 HE2
      have wr2 : IntKind.u64.wrap (z - 36) = z - 36 := by rw [IntKind.wrap_u64]; omega
      have HE3 := hidden HE2
      have HZ3 : Hid (Wn .u64 (wr.setCell ⟨n, 0, none⟩ (.int .u64 (z - 36))) (n + 1 + 1) 42 (List.replicate 5 0)) := HZ.out.other _ _ (by simp; omega)
      have HB3 := hidden (HB.out.setCell (p := ⟨n, 0, none⟩) (Nat.le_refl _) (.int .u64 (z - 36)))
      have HRR := hidden (HZ3.out.row R)
      have HBR := hidden (below_setRow HB3.out (show n ≤ n + 1 + 1 by omega) (ints .u64 R))
      clear HE2
      go_wp2_with (first
        | (refine wpList_load_row rfl 42 _ rfl n rfl 42 _ (0, 0) _ HE3.out.heap Try.underlying42 rfl HIR.out ?_)
        | (refine wpList_store_row rfl 42 _ _ rfl (n + 1 + 1) (ints .u64 R) rfl rfl 42 _ HZ3.out.heap HIR.out HZR.out HONER.out ?_)
        | fail)
      refine bodyPost_ret (results_cell_row rfl _ _ (n + 1 + 1) 42 _ _ _ rfl HRR.out.heap Try.underlying42 rfl HIR.out) rfl ?_
      exact ⟨rfl, by rw [HN.out]; exact HBR.out⟩
end Go.Proofs.Ytilnbmlbahflkaa
