/-
  The document's carry.
-/
import Derived.Test.YtilnbmlbahflkaaMRCrvNum
namespace Go.Proofs.Ytilnbmlbahflkaa
open Go.RowKit
set_option linter.unusedVariables false

def itR (L : List Int) : Nat → List Int
  | 0 => L
  | r + 1 => rndC (itR L r)
theorem itR_zero (L : List Int) : itR L 0 = L := rfl
theorem itR_succ (L : List Int) (r : Nat) : itR L (r + 1) = rndC (itR L r) := rfl
theorem itR_three (L : List Int) : itR L 3 = carL L := rfl
theorem rnd2 (L : List Int) (h : Ld 4611686018427387904 L) : Ld 9007199254740992 (rndC (rndC L)) := by
  exact rnd1 _ ((rnd1 L h).mono (by omega))
theorem itR_ld (L : List Int) (h : Ld 4611686018427387904 L) (r : Nat) (hr : r < 3) : Ld 4611686018427387904 (itR L r) := by
  have : r = 0 ∨ r = 1 ∨ r = 2 := by omega
  rcases this with rfl | rfl | rfl
  · exact h
  · exact (rnd1 L h).mono (by omega)
  · exact (rnd2 L h).mono (by omega)
theorem out_le (L : List Int) (h : Ld 4611686018427387904 L) : 0 ≤ num B16 L / B16 ^ 16 ∧ num B16 L / B16 ^ 16 ≤ 70400000000000 := by
  obtain ⟨h0, h1⟩ := num_bound16 _ (by omega) L h
  obtain ⟨q0, q1, _⟩ := rndC_rng L 70400000000000 h0 (by omega)
  exact ⟨q0, q1⟩
/-- What is carried out of the first j digits, and what lies there. -/
def cD (L : List Int) (j : Nat) : Int := num B16 (L.take j) / B16 ^ j
theorem cD_zero (L : List Int) : cD L 0 = 0 := by simp [cD, num]
theorem cD_succ (L : List Int) (j : Nat) (hj : j < L.length) : cD L (j + 1) = (cD L j + L.getD j 0) / 65536 := by
  have := carry_out B16 0 B16_pos L j hj
  simp only [Int.add_zero] at this
  unfold cD
  rw [this]
  rfl
theorem cD_rng (L : List Int) (h : Ld 4611686018427387904 L) (j : Nat) (hj : j ≤ 16) : 0 ≤ cD L j ∧ cD L j < 4611686018427387904 := by
  induction j with
  | zero => rw [cD_zero]; omega
  | succ j ih =>
    have := ih (by omega)
    have hx := h.get j (by omega)
    rw [cD_succ L j (by rw [h.len]; omega)]
    omega
theorem cD_end (L : List Int) (h : L.length = 16) : cD L 16 = num B16 L / B16 ^ 16 := by unfold cD; rw [List.take_of_length_le (by omega)]
def mD (L : List Int) (j : Nat) : List Int := dig B16 j (num B16 (L.take j)) ++ L.drop j
theorem mD_zero (L : List Int) : mD L 0 = L := by simp [mD, dig]
theorem mD_len (L : List Int) (j : Nat) (h : L.length = 16) (hj : j ≤ 16) : (mD L j).length = 16 := by simp [mD, dig_len]; omega
theorem mD_get (L : List Int) (j : Nat) (hj : j < L.length) : (mD L j).getD j 0 = L.getD j 0 := getD_mid _ _ _ (dig_len _ _ _)
theorem mD_succ (L : List Int) (j : Nat) (hj : j < L.length) : (mD L j).set j ((cD L j + L.getD j 0) % 65536) = mD L (j + 1) := by
  unfold mD
  have h := carry_dig B16 0 B16_pos L j hj
  simp only [Int.add_zero] at h
  rw [set_mid _ _ _ _ (dig_len _ _ _) hj, h]
  rfl
theorem mD_end (L : List Int) (h : L.length = 16) : mD L 16 = dig B16 16 (num B16 L) := by
  unfold mD
  rw [List.take_of_length_le (by omega), List.drop_of_length_le (by omega), List.append_nil]
theorem rnd_endD (L : List Int) (h : L.length = 16) : (mD L 16).set 0 ((mD L 16).getD 0 0 + 38 * cD L 16) = rndC L := by
  rw [mD_end L h, cD_end L h, Int.mul_comm]
  rfl
theorem mD_first (L : List Int) (h : L.length = 16) : 0 ≤ (mD L 16).getD 0 0 ∧ (mD L 16).getD 0 0 < 65536 := by
  rw [mD_end L h]
  have hr := dig_rng B16 B16_pos 16 (num B16 L)
  have hl := dig_len B16 16 (num B16 L)
  exact hr _ (by rw [List.getD_eq_getElem?_getD]; simp [show 0 < (dig B16 16 (num B16 L)).length by omega])
theorem and16d (x : Int) (h0 : 0 ≤ x) (h1 : x < 18446744073709551616) : bits .and .u64 x 65535 = x % 65536 :=
  bits_mask .u64 64 (by decide) (fun n h0 h1 => by rw [IntKind.wrap_u64]; omega) 16 (by decide) x h0 h1
theorem infoD0 : (Try.prog.info? 54).map (·.size) = some 16 := by kernel_rfl
theorem infoD (l : List Int) (h : l.length = 16) : (Try.prog.info? 54).map (·.size) = some (ints .u64 l).size := by rw [infoD0, ints_size, h]
theorem zero16 (l : List Int) (h : l.length = 16) : (ints .u64 (List.replicate 16 (0 : Int))).size = (ints .u64 l).size := by rw [ints_size, ints_size, h]; rfl

set_option maxHeartbeats 1600000 in
set_option maxRecDepth 100000 in
theorem rcarry_any (L : List Int) (hL : Ld 4611686018427387904 L) (w : World) :
    Calls Try.prog 36 #[.agg (ints .u64 L)] w fun e w' => e = .returned (.agg (ints .u64 (carL L))) ∧ Below w.heap.size w w' := by
  have HLD := hidden (fun r (hr : r < 3) => itR_ld L hL r hr)
  have HIT := hidden (fun r => itR_succ L r)
  have H3 := Is.mk (itR_three L)
  have hlen : (carL L).length = 16 := rndC_len _
  have HIR := hidden (infoD (carL L) hlen)
  have HZR := hidden (zero16 (carL L) hlen)
  generalize hR : carL L = R at *
  have h0 := itR_zero L
  have HIL := hidden (infoD L hL.len)
  generalize hS : ints .u64 L = S at *
  have HSS := Is.mk hS
  rw [← h0] at HSS
  generalize itR L = IT at *
  clear hL hlen hR hS h0
  go_enter Try.func36, Try.ntmps36
  go_upto_region 1 with fail
  generalize hw1 : World.alloc _ (.cells _ 54) = w1
  have hA : Wn .u64 w1 w.heap.size 54 (IT 0) := by
    rw [← hw1]
    exact (Wn.new .u64 w 54 (IT 0) _ HSS.eq.symm).alloc _
  have hZ : Wn .u64 w1 (w.heap.size + 1) 54 (List.replicate 16 0) := by
    rw [← hw1]
    exact Wn.new' .u64 _ 54 (List.replicate 16 0) _ rfl _ (by simp)
  have hb : Below w.heap.size w w1 := by
    rw [← hw1]
    exact ((Below.refl _ w).alloc (Nat.le_refl _) _).alloc (by simp) _
  clear hw1
  obtain ⟨n, hn⟩ : ∃ n, w.heap.size = n := ⟨_, rfl⟩
  simp only [hn] at hA hZ hb ⊢
  have HN := hidden hn
  have HA0 := hidden hA
  have HZ0 := hidden hZ
  have HB0 := hidden hb
  clear hA hZ hb hn
  go_wp2
  go_loopw [3] (fun i wr => ∃ (r : Nat), r ≤ 3 ∧ i = .int .i64 r ∧ Wn .u64 wr n 54 (IT r) ∧ Wn .u64 wr (n + 1) 54 (List.replicate 16 0) ∧ Below n w wr) (fun i _ => 3 - (intOf i).toNat)
  case atStart => exact ⟨0, by omega, rfl, HA0.out, HZ0.out, HB0.out⟩
  case round =>
    obtain ⟨r, hr, rfl, ha, hz, hb⟩ := hrel
    have HA := hidden ha
    have HZ := hidden hz
    have HB := hidden hb
    clear ha hz hb HA0 HZ0 HB0
    by_cases hlt : r < 3
    · have hld := HLD.out r hlt
      have HITR := Is.mk (HIT.out r)
      have b0 : (r : Int) < 3 := by omega
      generalize hM : IT r = M at *
      have HLD2 := hidden hld
      have HMZ := Is.mk (mD_zero M)
      have HC0 := Is.mk (cD_zero M)
      have HML := hidden (fun j (hj : j ≤ 16) => mD_len M j hld.len hj)
      have HMG := hidden (fun j (hj : j < 16) => mD_get M j (by rw [hld.len]; exact hj))
      have HMS := hidden (fun j (hj : j < 16) => mD_succ M j (by rw [hld.len]; exact hj))
      have HCS := hidden (fun j (hj : j < 16) => cD_succ M j (by rw [hld.len]; exact hj))
      have HCR := hidden (fun j (hj : j ≤ 16) => cD_rng M hld j hj)
      have HRE := Is.mk (rnd_endD M hld.len)
      have HMF := hidden (mD_first M hld.len)
      have HCE := Is.mk (cD_end M hld.len)
      have HOL := hidden (out_le M hld)
      have HA1 : Hid (Wn .u64 wr n 54 (mD M 0)) := by rw [HMZ.eq]; exact HA
      clear hld hM HA
      go_wp2
      rename World => wo
      go_loopw [4, 5] (fun u i wr => ∃ (j : Nat), j ≤ 16 ∧ i = .int .i64 j ∧ u = .int .u64 (cD M j) ∧ Wn .u64 wr n 54 (mD M j) ∧ Wn .u64 wr (n + 1) 54 (List.replicate 16 0) ∧ Below n w wr) (fun _ i _ => 16 - (intOf i).toNat)
      case atStart => exact ⟨0, by omega, rfl, by rw [HC0.eq], HA1.out, HZ.out, HB.out⟩
      case round =>
        clear HA1 HZ HB
        obtain ⟨j, hj, rfl, rfl, ha, hz, hb⟩ := hrel
        have HA := hidden ha
        have HZ := hidden hz
        have HB := hidden hb
        clear ha hz hb
        by_cases hjt : j < 16
        · have hx := HLD2.out.get j hjt
          have hc := HCR.out j hj
          have HS2 := Is.mk (HCS.out j hjt)
          have HMS2 := Is.mk (HMS.out j hjt)
          have hcx := HA.out.cell j (by rw [HML.out j hj]; exact hjt)
          rw [HMG.out j hjt] at hcx
          have hfx := HA.out.fr j
          generalize M.getD j 0 = x at *
          generalize cD M j = c at *
          have wr0 : IntKind.u64.wrap (c + x) = c + x := by rw [IntKind.wrap_u64]; omega
          have hand := and16d (c + x) (by omega) (by omega)
          have b0 : (j : Int) < 16 := by omega
          have b1 : (0 : Int) ≤ (j : Int) := by omega
          have HA2 := hidden (HA.out.set j ((c + x) % 65536))
          rw [HMS2.eq] at HA2
          go_wp2
          go_roundw
          case rel => exact ⟨j + 1, by omega, by go_num, by rw [HS2.eq], HA2.out, HZ.out.other _ _ (by simp), HB.out.setCell (Nat.le_refl _) _⟩
          case measure => simp [intOf]; omega
        · have hj16 : j = 16 := by omega
          have hge : ¬ (j : Int) < 16 := by omega
          have ha := HA.out
          rw [hj16] at ha
          have hcx := ha.cell 0 (by rw [HML.out 16 (by omega)]; omega)
          have hfx := ha.fr 0
          have hmf := HMF.out
          have hol := HOL.out
          rw [← HCE.eq] at hol
          have ha2 := ha.set 0 ((mD M 16).getD 0 0 + 38 * cD M 16)
          rw [HRE.eq, ← HITR.eq] at ha2
          have HA2 := hidden ha2
          have hcj : cD M j = cD M 16 := by rw [hj16]
          rw [hcj]
          generalize (mD M 16).getD 0 0 = d at *
          generalize cD M 16 = c at *
          have wr0 : IntKind.u64.wrap (38 * c) = 38 * c := by rw [IntKind.wrap_u64]; omega
          have wr1 : IntKind.u64.wrap (d + 38 * c) = d + 38 * c := by rw [IntKind.wrap_u64]; omega
          clear ha ha2 hcj hj16
          go_wp2
          go_roundw
          case rel => exact ⟨r + 1, by omega, by go_num, HA2.out, HZ.out.other _ _ (by simp), HB.out.setCell (Nat.le_refl _) _⟩
          case measure => simp [intOf]; omega
    · have hr3 : r = 3 := by omega
      have hge : ¬ (r : Int) < 3 := by omega
      have hae := HA.out
      rw [hr3, H3.eq] at hae
      have HE := hidden hae
      clear hr3 hae HA
      go_wp2_with (first
        | (refine wpList_load_row rfl 54 _ rfl n rfl 54 _ (0, 0) _ HE.out.heap Try.underlying54 rfl HIR.out ?_)
        | (refine wpList_store_row rfl 54 _ _ rfl (n + 1) (ints .u64 R) rfl rfl 54 _ HZ.out.heap HIR.out HZR.out (onek .u64 R) ?_)
        | fail)
      refine bodyPost_ret (results_cell_row rfl _ _ (n + 1) 54 _ _ _ rfl (HZ.out.row R).heap Try.underlying54 rfl HIR.out) rfl ?_
      exact ⟨rfl, by rw [HN.out]; exact below_setRow HB.out (by omega) _⟩
end Go.Proofs.Ytilnbmlbahflkaa
