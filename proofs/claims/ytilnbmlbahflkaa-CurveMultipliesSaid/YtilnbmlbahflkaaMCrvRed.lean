/-
  curve.reduced.
-/
import Derived.Test.YtilnbmlbahflkaaMCrvProd
namespace Go.Proofs.Ytilnbmlbahflkaa
open Go.RowKit
set_option linter.unusedVariables false

/-- What is carried out of the first j limbs, and what lies in them. -/
def cR (c : Int) (L : List Int) (j : Nat) : Int := (num B51 (L.take j) + c) / B51 ^ j
theorem cR_zero (c : Int) (L : List Int) : cR c L 0 = c := by simp [cR, num]
theorem cR_succ (c : Int) (L : List Int) (j : Nat) (hj : j < L.length) : cR c L (j + 1) = (L.getD j 0 + cR c L j) / 2251799813685248 := by
  unfold cR
  rw [carry_out B51 c B51_pos L j hj, Int.add_comm]
  rfl
theorem cR_rng (c : Int) (h0 : 0 ≤ c) (h1 : c ≤ 38) (L : List Int) (h : Lw m1 L) (j : Nat) (hj : j ≤ 5) : 0 ≤ cR c L j ∧ cR c L j ≤ 38 := by
  induction j with
  | zero => rw [cR_zero]; omega
  | succ j ih =>
    have := ih (by omega)
    have hx := h.get j (by omega)
    rw [cR_succ c L j (by rw [h.len]; omega)]
    unfold m1 at hx
    omega
theorem cR_end (c : Int) (L : List Int) (h : L.length = 5) : cR c L 5 = (num B51 L + c) / B51 ^ 5 := by unfold cR; rw [List.take_of_length_le (by omega)]
def mR (c : Int) (L : List Int) (j : Nat) : List Int := dig B51 j (num B51 (L.take j) + c) ++ L.drop j
theorem mR_zero (c : Int) (L : List Int) : mR c L 0 = L := by simp [mR, dig]
theorem mR_len (c : Int) (L : List Int) (j : Nat) (h : L.length = 5) (hj : j ≤ 5) : (mR c L j).length = 5 := by simp [mR, dig_len]; omega
theorem mR_succ (c : Int) (L : List Int) (j : Nat) (hj : j < L.length) : (mR c L j).set j ((L.getD j 0 + cR c L j) % 2251799813685248) = mR c L (j + 1) := by
  unfold mR
  rw [set_mid _ _ _ _ (dig_len _ _ _) hj, carry_dig B51 c B51_pos L j hj]
  unfold cR
  rw [Int.add_comm (L.getD j 0)]
  rfl
theorem mR_end (c : Int) (L : List Int) (h : L.length = 5) : mR c L 5 = dig B51 5 (num B51 L + c) := by
  unfold mR
  rw [List.take_of_length_le (by omega), List.drop_of_length_le (by omega), List.append_nil]
theorem num_lw (L : List Int) (h : Lw m1 L) : 0 ≤ num B51 L ∧ num B51 L < 57896044618658097711785492504343953926634992332820282019728792003956564819968 + 57896044618658097711785492504343953926634992332820282019728792003956564819930 := by
  obtain ⟨a, b, c, d, e, rfl, h0, h1, h2, h3, h4⟩ := h.out
  rw [num51]
  unfold m1 at *
  omega
/-- The lowest such number. -/
theorem red_ok (L : List Int) (h : Lw m1 L) : dig B51 5 (num B51 L + (num B51 L + 19) / B51 ^ 5 * 19) = dig B51 5 (num B51 L % (pN : Int)) ∧ 0 ≤ (num B51 L + 19) / B51 ^ 5 * 19 ∧ (num B51 L + 19) / B51 ^ 5 * 19 ≤ 38 := by
  obtain ⟨h0, h1⟩ := num_lw L h
  have e5 : B51 ^ 5 = 57896044618658097711785492504343953926634992332820282019728792003956564819968 := by decide
  generalize num B51 L = v at *
  rw [e5, pN_int]
  refine ⟨?_, by omega, by omega⟩
  have ht : (v + 19) / 57896044618658097711785492504343953926634992332820282019728792003956564819968 = 0 ∨ (v + 19) / 57896044618658097711785492504343953926634992332820282019728792003956564819968 = 1 := by omega
  rcases ht with ht | ht
  · rw [ht]
    congr 1
    omega
  · rw [ht]
    have e : v + 1 * 19 = v % 57896044618658097711785492504343953926634992332820282019728792003956564819949 + B51 ^ 5 * 1 := by rw [e5]; omega
    rw [e, dig_add _ (by decide)]

set_option maxHeartbeats 1600000 in
set_option maxRecDepth 100000 in
theorem reduced_any (L : List Int) (hL : Lw m1 L) (w : World) :
    Calls Try.prog 34 #[.agg (ints .u64 L)] w fun e w' => e = .returned (.agg (ints .u64 (dig B51 5 (num B51 L % (pN : Int))))) ∧ Below w.heap.size w w' := by
  obtain ⟨i0, hi0, hz0, hz1, hz2⟩ := info_parts infoU64c
  have HIX := hidden (fun (j : Nat) (hj : j < 5) (w' : World) => run_indexN (k := .u64) (P := Try.prog) Try.underlying42 Try.underlying40 hi0 hz1 L hL.len j hj w')
  have HI := hidden (infoE L hL.len)
  have HX := hidden (fun j (hj : j < 5) => hL.get j hj)
  have HLL := Is.mk hL.len
  obtain ⟨hr1, hr2, hr3⟩ := red_ok L hL
  have HCE := Is.mk (cR_end 19 L hL.len)
  have HC0 := Is.mk (cR_zero 19 L)
  have HCS := hidden (fun j (hj : j < 5) => cR_succ 19 L j (by rw [hL.len]; exact hj))
  have HCR := hidden (fun j (hj : j ≤ 5) => cR_rng 19 (by omega) (by omega) L hL j hj)
  obtain ⟨q, hq⟩ : ∃ q, (num B51 L + 19) / B51 ^ 5 * 19 = q := ⟨_, rfl⟩
  have HQ := Is.mk hq
  rw [hq] at hr1 hr2 hr3
  have hlen := dig_len B51 5 (num B51 L % (pN : Int))
  have HR1 := Is.mk hr1
  have HQR := hidden (⟨hr2, hr3⟩ : 0 ≤ q ∧ q ≤ 38)
  have HM0 := Is.mk (mR_zero q L)
  have HML := hidden (fun j (hj : j ≤ 5) => mR_len q L j hL.len hj)
  have HMS := hidden (fun j (hj : j < 5) => mR_succ q L j (by rw [hL.len]; exact hj))
  have HME := Is.mk (mR_end q L hL.len)
  have HD0 := Is.mk (cR_zero q L)
  have HDS := hidden (fun j (hj : j < 5) => cR_succ q L j (by rw [hL.len]; exact hj))
  have HDR := hidden (fun j (hj : j ≤ 5) => cR_rng q hr2 hr3 L hL j hj)
  have HQ2 : Hid (num B51 L + 19 = num B51 L + 19) := rfl
  generalize dig B51 5 (num B51 L % (pN : Int)) = R at *
  have HIR := hidden (infoE R hlen)
  have HZR := hidden (zero5 R hlen)
  clear hi0 hz0 hz1 hz2 hr1 hr2 hr3 hq hL hlen
  generalize hS : ints .u64 L = S at HIX HI ⊢
  have HSS := Is.mk hS
  clear hS
  go_enter Try.func34, Try.ntmps34
  go_upto_region 1 with fail
  generalize hw1 : World.alloc _ (.cells _ 42) = w1
  have hA : Wn .u64 w1 w.heap.size 42 L := by
    rw [← hw1]
    exact (Wn.new .u64 w 42 L _ HSS.eq.symm).alloc _
  have hZ : Wn .u64 w1 (w.heap.size + 1) 42 (List.replicate 5 0) := by
    rw [← hw1]
    exact Wn.new' .u64 _ 42 (List.replicate 5 0) _ rfl _ (by simp)
  have hb : Below w.heap.size w w1 := by
    rw [← hw1]
    exact ((Below.refl _ w).alloc (Nat.le_refl _) _).alloc (by simp) _
  clear hw1
  obtain ⟨n, hn⟩ : ∃ n, w.heap.size = n := ⟨_, rfl⟩
  simp only [hn] at hA hZ hb ⊢
  have HN := hidden hn
  have HA := hidden hA
  have HAH : Hid (w1.heap[n]? = some (.cells S 42 (0, 0))) := by rw [← HSS.eq]; exact hidden hA.heap
  have HZ := hidden hZ
  have HB := hidden hb
  clear hA hZ hb hn
  go_wp2_with (first
    | (refine wpList_load_row rfl 42 _ rfl n rfl 42 S (0, 0) _ HAH.out Try.underlying42 rfl HI.out ?_)
    | fail)
  go_loopw [3, 10] (fun b i wr => ∃ j : Nat, j ≤ 5 ∧ i = .int .i64 j ∧ b = .int .u64 (cR 19 L j) ∧ wr = w1) (fun _ i _ => 5 - (intOf i).toNat)
  case atStart => exact ⟨0, by omega, rfl, by rw [HC0.eq], by trivial⟩
  case round =>
    obtain ⟨j, hj, rfl, rfl, rfl⟩ := hrel
    by_cases hlt : j < 5
    · have hix := HIX.out j hlt
      have hx := HX.out j hlt
      have hc := HCR.out j hj
      have HS2 := Is.mk (HCS.out j hlt)
      generalize L.getD j 0 = x at hix hx HS2
      generalize cR 19 L j = c at hc HS2 ⊢
      unfold m1 at hx
      have wr0 : IntKind.u64.wrap (x + c) = x + c := by rw [IntKind.wrap_u64]; omega
      have b0 : (j : Int) < 5 := by omega
      have b1 : (0 : Int) ≤ (j : Int) := by omega
      go_wp2
      go_roundw
      case rel => exact ⟨j + 1, by omega, by go_num, by rw [HS2.eq], by trivial⟩
      case measure => simp [intOf]; omega
    · have hj5 : j = 5 := by omega
      have hge : ¬ (j : Int) < 5 := by omega
      have hcr := HCR.out j hj
      have hqe : cR 19 L j * 19 = q := by rw [hj5, HCE.eq, HQ.eq]
      clear hj5
      have hqr := HQR.out
      generalize cR 19 L j = c at *
      have wq : IntKind.u64.wrap (c * 19) = q := by rw [hqe, IntKind.wrap_u64]; omega
      clear hqe
      go_upto_region 8 with fail
      go_wp2_with (first
        | (refine wpList_load_row rfl 42 _ rfl n rfl 42 S (0, 0) _ HAH.out Try.underlying42 rfl HI.out ?_)
        | fail)
      rename World => wo
      have HA1 : Hid (Wn .u64 wo n 42 (mR q L 0)) := by rw [HM0.eq]; exact HA
      go_loopw [6, 21] (fun b i wr => ∃ j : Nat, j ≤ 5 ∧ i = .int .i64 j ∧ b = .int .u64 (cR q L j) ∧ Wn .u64 wr n 42 (mR q L j) ∧ Wn .u64 wr (n + 1) 42 (List.replicate 5 0) ∧ Below n w wr) (fun _ i _ => 5 - (intOf i).toNat)
      case atStart => exact ⟨0, by omega, rfl, by rw [HD0.eq], HA1.out, HZ.out, HB.out⟩
      case round =>
        clear HA1 HA HAH HZ HB
        obtain ⟨j, hj, rfl, rfl, ha, hz, hb⟩ := hrel
        have HA := hidden ha
        have HZ := hidden hz
        have HB := hidden hb
        clear ha hz hb
        by_cases hlt : j < 5
        · have hix := HIX.out j hlt
          have hx := HX.out j hlt
          have hc := HDR.out j hj
          have HS2 := Is.mk (HDS.out j hlt)
          have HMS2 := Is.mk (HMS.out j hlt)
          have hcx := HA.out.cell j (by rw [HML.out j hj]; exact hlt)
          have hfx := HA.out.fr j
          generalize L.getD j 0 = x at hix hx HS2 HMS2
          generalize cR q L j = c at hc HS2 HMS2 ⊢
          generalize (mR q L j).getD j 0 = old at hcx
          unfold m1 at hx
          have wr0 : IntKind.u64.wrap (x + c) = x + c := by rw [IntKind.wrap_u64]; omega
          have hand := and51 (x + c) (by omega) (by omega)
          have b0 : (j : Int) < 5 := by omega
          have b1 : (0 : Int) ≤ (j : Int) := by omega
          have HA2 := hidden (HA.out.set j ((x + c) % 2251799813685248))
          rw [HMS2.eq] at HA2
          go_wp2
          go_roundw
          case rel => exact ⟨j + 1, by omega, by go_num, by rw [HS2.eq], HA2.out, HZ.out.other _ _ (by simp), HB.out.setCell (Nat.le_refl _) _⟩
          case measure => simp [intOf]; omega
        · have hj5 : j = 5 := by omega
          have hge : ¬ (j : Int) < 5 := by omega
          have hae := HA.out
          rw [hj5, HME.eq, HR1.eq] at hae
          have HE := hidden hae
          clear hj5 hae HA
          go_wp2_with (first
            | (refine wpList_load_row rfl 42 _ rfl n rfl 42 _ (0, 0) _ HE.out.heap Try.underlying42 rfl HIR.out ?_)
            | (refine wpList_store_row rfl 42 _ _ rfl (n + 1) (ints .u64 R) rfl rfl 42 _ HZ.out.heap HIR.out HZR.out (onek .u64 R) ?_)
            | fail)
          refine bodyPost_ret (results_cell_row rfl _ _ (n + 1) 42 _ _ _ rfl (HZ.out.row R).heap Try.underlying42 rfl HIR.out) rfl ?_
          exact ⟨rfl, by rw [HN.out]; exact below_setRow HB.out (by omega) _⟩
end Go.Proofs.Ytilnbmlbahflkaa
