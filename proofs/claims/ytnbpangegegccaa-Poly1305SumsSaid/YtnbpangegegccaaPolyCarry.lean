/-
  poly1305.carried: what it returns.
-/
import Derived.Test.YtnbpangegegccaaPolyMath
import Derived.Test.YtnbpangegegccaaWn
import Derived.Test.YtnbpangegegccaaIs
namespace Go.Proofs.Ytnbpangegegccaa
open Go.RowKit
set_option linter.unusedVariables false

theorem infoP : (Try.prog.info? 44).map (·.size) = some 5 := by kernel_rfl
theorem infoU64 : (Try.prog.info? 42).map (fun i => (i.zero, i.size, i.bytes)) = some (some (.int .u64 0), 1, 8) := by kernel_rfl
theorem infoL (l : List Int) (h : l.length = 5) : (Try.prog.info? 44).map (·.size) = some (ints .u64 l).size := by rw [infoP, ints_size, h]
/-- The base of the limbs. -/
def B26 : Int := 67108864
theorem B26_pos : 0 < B26 := by decide
/-- What carried returns. -/
def carriedL (L : List Int) : List Int := (dig B26 5 (num B26 L)).set 0 ((dig B26 5 (num B26 L)).getD 0 0 + num B26 L / B26 ^ 5 * 5)
theorem carriedL_len (L : List Int) : (carriedL L).length = 5 := by simp [carriedL, dig_len]
theorem and26 (x : Int) (h0 : 0 ≤ x) (h1 : x < 18446744073709551616) : bits .and .u64 x 67108863 = x % 67108864 :=
  bits_mask .u64 64 (by decide) (fun n h0 h1 => by rw [IntKind.wrap_u64]; omega) 26 (by decide) x h0 h1
/-- What is carried out of the first j limbs. -/
def outC (c : Int) (L : List Int) (j : Nat) : Int := (num B26 (L.take j) + c) / B26 ^ j
theorem outC_succ (c : Int) (L : List Int) (j : Nat) (hj : j < L.length) : outC c L (j + 1) = (L.getD j 0 + outC c L j) / 67108864 := by
  unfold outC
  rw [carry_out B26 c B26_pos L j hj, Int.add_comm]
  rfl
theorem outC_rng (c : Int) (h0 : 0 ≤ c) (h1 : c ≤ 5) (L : List Int) (h : ∀ x ∈ L, 0 ≤ x ∧ x < 4611686018427387904) (j : Nat) (hj : j ≤ L.length) : 0 ≤ outC c L j ∧ outC c L j < 137438953472 := by
  induction j with
  | zero => simp [outC, num]; omega
  | succ j ih =>
    have := ih (by omega)
    have hx := h (L.getD j 0) (by rw [List.getD_eq_getElem?_getD]; simp [show j < L.length by omega])
    rw [outC_succ c L j (by omega)]
    omega
theorem digC_succ (L : List Int) (j : Nat) (hj : j < L.length) : dig B26 (j + 1) (num B26 (L.take (j + 1))) = dig B26 j (num B26 (L.take j)) ++ [(L.getD j 0 + outC 0 L j) % 67108864] := by
  have := carry_dig B26 0 B26_pos L j hj
  simp only [Int.add_zero] at this
  rw [this]
  unfold outC
  rw [Int.add_zero, Int.add_comm]
  rfl
/-- What lies in the block of the number in the round j. -/
def midC (L : List Int) (j : Nat) : List Int := dig B26 j (num B26 (L.take j)) ++ L.drop j
theorem midC_zero (L : List Int) : midC L 0 = L := by simp [midC, dig]
theorem midC_len (L : List Int) (j : Nat) (hj : j ≤ L.length) : (midC L j).length = L.length := by simp [midC, dig_len]; omega
theorem midC_succ (L : List Int) (j : Nat) (hj : j < L.length) : (midC L j).set j ((L.getD j 0 + outC 0 L j) % 67108864) = midC L (j + 1) := by
  unfold midC
  rw [set_mid _ _ _ _ (dig_len _ _ _) hj, digC_succ L j hj]
theorem midC_end (L : List Int) (h : L.length = 5) : (midC L 5).set 0 ((midC L 5).getD 0 0 + outC 0 L 5 * 5) = carriedL L := by
  unfold midC carriedL outC
  rw [List.drop_of_length_le (by omega), List.append_nil, List.take_of_length_le (by omega), Int.add_zero]
theorem midC_nonneg (L : List Int) (h : L.length = 5) : 0 ≤ (midC L 5).getD 0 0 ∧ (midC L 5).getD 0 0 < 67108864 := by
  unfold midC
  rw [List.drop_of_length_le (by omega), List.append_nil, List.take_of_length_le (by omega), List.getD_eq_getElem?_getD]
  have h1 := dig_rng B26 B26_pos 5 (num B26 L)
  have h2 := dig_len B26 5 (num B26 L)
  generalize dig B26 5 (num B26 L) = D at *
  have := h1 (D[0]) (List.getElem_mem (by omega))
  simp [show 0 < D.length by omega]
  exact this

set_option maxHeartbeats 1600000 in
set_option maxRecDepth 100000 in
theorem carried_any (L : List Int) (hL : L.length = 5) (hr : ∀ x ∈ L, 0 ≤ x ∧ x < 4611686018427387904) (w : World) :
    Calls Try.prog 30 #[.agg (ints .u64 L)] w fun e w' => e = .returned (.agg (ints .u64 (carriedL L))) ∧ Below w.heap.size w w' := by
  obtain ⟨i0, hi0, hz0, hz1, hz2⟩ := info_parts infoU64
  have HIX := hidden (fun (j : Nat) (hj : j < 5) (w' : World) => run_indexN (k := .u64) (P := Try.prog) Try.underlying44 Try.underlying42 hi0 hz1 L hL j hj w')
  have HIS := hidden (infoL L hL)
  obtain ⟨R, hR⟩ : ∃ R, carriedL L = R := ⟨_, rfl⟩
  have hRl : R.length = 5 := by rw [← hR, carriedL_len]
  have HIR := hidden (infoL R hRl)
  have HZR : Hid ((ints .u64 (List.replicate 5 (0 : Int))).size = (ints .u64 R).size) := by show _ = _; rw [ints_size, ints_size, hRl]; rfl
  have HONER := hidden (onek .u64 R)
  have HM0 := Is.mk (midC_zero L)
  have HML := hidden (fun j (hj : j ≤ 5) => midC_len L j (by omega))
  have HMS := hidden (fun j (hj : j < 5) => midC_succ L j (by omega))
  have HME := Is.mk (midC_end L hL)
  have HMN := hidden (midC_nonneg L hL)
  have HOS := hidden (fun j (hj : j < 5) => outC_succ 0 L j (by omega))
  have HOR := hidden (fun j (hj : j ≤ 5) => outC_rng 0 (by omega) (by omega) L hr j (by omega))
  have HO0 : Is (outC 0 L 0) 0 := ⟨by simp [outC, num]⟩
  have HXR := hidden (fun j (hj : j < 5) => hr (L.getD j 0) (by rw [List.getD_eq_getElem?_getD]; simp [show j < L.length by omega]))
  have HLL := Is.mk hL
  rw [hR] at HME ⊢
  clear hi0 hz0 hz1 hz2 hRl hR hL hr
  generalize hS : ints .u64 L = S at HIX HIS ⊢
  have HSS := Is.mk hS
  clear hS
  go_enter Try.func30, Try.ntmps30
  go_wp2_with (first
    | (refine wpList_load_row rfl 44 _ rfl w.heap.size rfl 44 S (0, 0) _ (heap_1st _ _ _ _) Try.underlying44 rfl HIS.out ?_)
    | fail)
  generalize hw1 : World.alloc _ (.cells _ 44) = w1
  have hA : Wn .u64 w1 w.heap.size 44 (midC L 0) := by
    rw [← hw1, HM0.eq]
    exact (Wn.new .u64 w 44 L _ HSS.eq.symm).alloc _
  have hZ : Wn .u64 w1 (w.heap.size + 1) 44 (List.replicate 5 0) := by
    rw [← hw1]
    exact Wn.new' .u64 _ 44 (List.replicate 5 0) _ rfl _ (by simp)
  have hb : Below w.heap.size w w1 := by
    rw [← hw1]
    exact ((Below.refl _ w).alloc (Nat.le_refl _) _).alloc (by simp) _
  clear hw1
  obtain ⟨n, hn⟩ : ∃ n, w.heap.size = n := ⟨_, rfl⟩
  simp only [hn] at hA hZ hb ⊢
  have HN := hidden hn
  have HA0 := hidden hA
  have HZ0 := hidden hZ
  have HB0 := hidden hb
  clear hA hZ hb hn
  go_loopw [3, 7] (fun c i wr => ∃ j : Nat, j ≤ 5 ∧ i = .int .i64 j ∧ c = .int .u64 (outC 0 L j) ∧ Wn .u64 wr n 44 (midC L j) ∧ Wn .u64 wr (n + 1) 44 (List.replicate 5 0) ∧ Below n w wr) (fun _ i _ => 5 - (intOf i).toNat)
  case atStart => exact ⟨0, by omega, rfl, by rw [HO0.eq], HA0.out, HZ0.out, HB0.out⟩
  case round =>
    obtain ⟨j, hj, rfl, rfl, ha, hz, hb⟩ := hrel
    have HA := hidden ha
    have HZ := hidden hz
    have HB := hidden hb
    clear ha hz hb HA0 HZ0 HB0
    by_cases hlt : j < 5
    · have hix := HIX.out j hlt
      have hox := HOR.out j hj
      have hxx := HXR.out j hlt
      have HS1 := Is.mk (HMS.out j hlt)
      have HS2 := Is.mk (HOS.out j hlt)
      have hfx := HA.out.fr j
      have hcx := HA.out.cell j (by rw [HML.out j hj, HLL.eq]; exact hlt)
      generalize L.getD j 0 = x at hix hxx HS1 HS2
      generalize outC 0 L j = c at hox HS1 HS2
      have hand := and26 (x + c) (by omega) (by omega)
      have wr0 : IntKind.u64.wrap (x + c) = x + c := by rw [IntKind.wrap_u64]; omega
      have b0 : (j : Int) < 5 := by omega
      have b1 : (0 : Int) ≤ (j : Int) := by omega
      go_wp2
      go_roundw
      case rel => exact ⟨j + 1, by omega, by go_num, by rw [HS2.eq], by rw [← HS1.eq]; exact HA.out.set j _, HZ.out.other _ _ (by simp), HB.out.setCell (Nat.le_refl _) _⟩
      case measure => simp [intOf]; omega
    · have hj5 : j = 5 := by omega
      have hge : ¬ (j : Int) < 5 := by omega
      rw [← hj5] at HME HMN
      clear hj5
      have hox := HOR.out j hj
      have hcx := HA.out.cell 0 (by rw [HML.out j hj, HLL.eq]; omega)
      have hfx := HA.out.fr 0
      have hmx := HMN.out
      generalize (midC L j).getD 0 0 = x at hcx hmx HME
      generalize outC 0 L j = c at hox HME ⊢
      have wr1 : IntKind.u64.wrap (c * 5) = c * 5 := by rw [IntKind.wrap_u64]; omega
      have wr2 : IntKind.u64.wrap (x + c * 5) = x + c * 5 := by rw [IntKind.wrap_u64]; omega
      have HE := hidden (HA.out.set 0 (x + c * 5))
      rw [HME.eq] at HE
      have HZE : Hid (Wn .u64 (wr.setCell ⟨n, 0, none⟩ (.int .u64 (x + c * 5))) (n + 1) 44 (List.replicate 5 0)) := HZ.out.other _ _ (by simp)
      have HBE := hidden (HB.out.setCell (p := ⟨n, 0, none⟩) (Nat.le_refl _) (.int .u64 (x + c * 5)))
      have HRR := hidden (HZE.out.row R)
      have HBR := hidden (below_setRow HBE.out (show n ≤ n + 1 by omega) (ints .u64 R))
      go_wp2_with (first
        | (refine wpList_load_row rfl 44 _ rfl n rfl 44 _ (0, 0) _ HE.out.heap Try.underlying44 rfl HIR.out ?_)
        | (refine wpList_store_row rfl 44 _ _ rfl (n + 1) (ints .u64 R) rfl rfl 44 _ HZE.out.heap HIR.out HZR.out HONER.out ?_)
        | fail)
      refine bodyPost_ret (results_cell_row rfl _ _ (n + 1) 44 _ _ _ rfl HRR.out.heap Try.underlying44 rfl HIR.out) rfl ?_
      exact ⟨rfl, by rw [HN.out]; exact HBR.out⟩

end Go.Proofs.Ytnbpangegegccaa
