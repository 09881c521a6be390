/-
  curve.inverse.
-/
import Derived.Test.YtilnbmlbahflkaaMCrvProd
namespace Go.Proofs.Ytilnbmlbahflkaa
open Go.RowKit
set_option linter.unusedVariables false

/-- The power so far, after so many rounds. -/
def invS (x : K) : Nat → K
  | 0 => 1
  | m + 1 => if m = 252 ∨ m = 250 then invS x m * invS x m else invS x m * invS x m * x
theorem invS_zero (x : K) : invS x 0 = 1 := rfl
theorem invS_skip (x : K) (m : Nat) (h : m = 252 ∨ m = 250) : invS x (m + 1) = invS x m * invS x m := by rw [invS, if_pos h]
theorem invS_mul (x : K) (m : Nat) (h : ¬ (m = 252 ∨ m = 250)) : invS x (m + 1) = invS x m * invS x m * x := by rw [invS, if_neg h]
theorem exps_ok : ∀ m, m < 255 → (pN - 2) / 2 ^ (254 - m) = 2 * ((pN - 2) / 2 ^ (255 - m)) + (if m = 252 ∨ m = 250 then 0 else 1) := by decide +kernel
theorem invS_pow (x : K) (m : Nat) (hm : m ≤ 255) : invS x m = kpow x ((pN - 2) / 2 ^ (255 - m)) := by
  induction m with
  | zero => rw [invS_zero, show (pN - 2) / 2 ^ (255 - 0) = 0 by decide +kernel, kpow_zero]
  | succ m ih =>
    have e := exps_ok m (by omega)
    rw [show 255 - (m + 1) = 254 - m by omega, e]
    have := ih (by omega)
    by_cases h : m = 252 ∨ m = 250
    · rw [invS_skip x m h, this, if_pos h, Nat.add_zero, kpow_two]
    · rw [invS_mul x m h, this, if_neg h, kpow_succ, kpow_two]
theorem invS_end (x : K) : invS x 255 = kinv x := by
  rw [invS_pow x 255 (Nat.le_refl _), show (pN - 2) / 2 ^ (255 - 255) = pN - 2 by decide +kernel]
  rfl
theorem fe_one : fe [1, 0, 0, 0, 0] = 1 := by
  unfold fe
  rw [num51]
  exact toK_lit1

set_option maxHeartbeats 1600000 in
set_option maxRecDepth 100000 in
theorem cinv_any (A : List Int) (hA : Lw m1 A) (w : World) :
    Calls Try.prog 21 #[.agg (ints .u64 A)] w fun e w' => ∃ R, e = .returned (.agg (ints .u64 R)) ∧ Lw m1 R ∧ fe R = kinv (fe A) ∧ Below w.heap.size w w' := by
  have HIA := hidden (infoE A hA.len)
  have HA2 := hidden (hA.mono (show m1 ≤ m2 by decide))
  have HFE := Is.mk (invS_end (fe A))
  have HS0 := Is.mk (invS_zero (fe A))
  have HSK := hidden (fun m h => invS_skip (fe A) m h)
  have HSM := hidden (fun m h => invS_mul (fe A) m h)
  have HPR := hidden (fun (L : List Int) (hL : Lw m1 L) (W : World) => cprod_any L L (hL.mono (show m1 ≤ m2 by decide)) (hL.mono (show m1 ≤ m2 by decide)) W)
  have HPA := hidden (fun (L : List Int) (hL : Lw m1 L) (W : World) => cprod_any L A (hL.mono (show m1 ≤ m2 by decide)) HA2.out W)
  have HL1 : Hid (Lw m1 [1, 0, 0, 0, 0]) := by
    show Lw m1 [1, 0, 0, 0, 0]
    unfold m1
    exact Lw.of (by omega) (by omega) (by omega) (by omega) (by omega)
  have HF1 := Is.mk fe_one
  generalize hx : fe A = x at *
  clear hx hA HA2
  generalize hSA : ints .u64 A = SA at HIA HPA ⊢
  clear hSA
  go_enter Try.func21, Try.ntmps21
  go_upto_region 2 with fail
  generalize hw1 : World.alloc _ (.cells _ 42) = w1
  have hA : w1.heap[w.heap.size]? = some (.cells SA 42 (0, 0)) := by
    rw [← hw1, Below.heap_alloc _ _ _ (by simp; omega), heap_1st]
  have hZ : Wn .u64 w1 (w.heap.size + 1) 42 (List.replicate 5 0) := by
    rw [← hw1]
    exact (Wn.new' .u64 _ 42 (List.replicate 5 0) _ rfl _ (by simp)).alloc _
  have hO : Wn .u64 w1 (w.heap.size + 1 + 1) 42 [1, 0, 0, 0, 0] := by
    rw [← hw1]
    exact Wn.new' .u64 _ 42 [1, 0, 0, 0, 0] _ rfl _ (by simp)
  have hb : Below w.heap.size w w1 := by
    rw [← hw1]
    exact (((Below.refl _ w).alloc (Nat.le_refl _) _).alloc (by simp) _).alloc (by simp; omega) _
  clear hw1
  obtain ⟨n, hn⟩ : ∃ n, w.heap.size = n := ⟨_, rfl⟩
  simp only [hn] at hA hZ hO hb ⊢
  have HN := hidden hn
  have HA0 := hidden hA
  have HZ0 := hidden hZ
  have HO0 := hidden hO
  have HB0 := hidden hb
  clear hA hZ hO hb hn
  go_wp2
  go_loopw [4] (fun i wr => ∃ (m : Nat) (L : List Int), m ≤ 255 ∧ i = .int .i64 (254 - (m : Int)) ∧ Lw m1 L ∧ fe L = invS x m ∧ wr.heap[n]? = some (.cells SA 42 (0, 0)) ∧ Wn .u64 wr (n + 1) 42 (List.replicate 5 0) ∧ Wn .u64 wr (n + 1 + 1) 42 L ∧ Below n w wr) (fun i _ => (intOf i + 1).toNat)
  case atStart => exact ⟨0, [1, 0, 0, 0, 0], by omega, rfl, HL1.out, by rw [HF1.eq, HS0.eq], HA0.out, HZ0.out, HO0.out, HB0.out⟩
  case round =>
    obtain ⟨m, L, hm, rfl, hl, hf, ha, hz, ho, hb⟩ := hrel
    have HL := hidden hl
    have HF := Is.mk hf
    have HA := hidden ha
    have HZ := hidden hz
    have HO := hidden ho
    have HB := hidden hb
    have HIL := hidden (infoE L hl.len)
    have HC := hidden (HPR.out L hl)
    clear hl hf ha hz ho hb HA0 HZ0 HO0 HB0
    by_cases hlt : m < 255
    · have b0 : (0 : Int) ≤ 254 - (m : Int) := by omega
      have q : Hid (m = 252 ∨ m = 250 ∨ ¬ (m = 252 ∨ m = 250)) := by show _ ∨ _ ∨ _; omega
      by_cases hsk : m = 252 ∨ m = 250
      · have HN2 := Is.mk (HSK.out m hsk)
        have hg : ((254 - (m : Int) != 2) = false ∧ (254 - (m : Int) != 4) = true) ∨ ((254 - (m : Int) != 2) = true ∧ (254 - (m : Int) != 4) = false) := by
          rcases hsk with rfl | rfl
          · exact Or.inl ⟨rfl, rfl⟩
          · exact Or.inr ⟨rfl, rfl⟩
        clear hsk q
        rcases hg with ⟨g2, g4⟩ | ⟨g2, g4⟩
        all_goals
          go_wp2_with (first
            | (refine wpList_load_row rfl 42 _ rfl (n + 1 + 1) rfl 42 _ (0, 0) _ HO.out.heap Try.underlying42 rfl HIL.out ?_)
            | (go_at_call 20; (with_reducible refine (HC.out _).mono ?_); rintro e4 w4 ⟨R, rfl, hr, hf, hb4⟩; have HR := hidden hr; have HFR := Is.mk hf; have HB4 := hidden hb4; have HO4 := hidden (HO.out.below hb4); have HIR := hidden (infoE R hr.len); have HZR : Hid ((ints .u64 L).size = (ints .u64 R).size) := (by show _ = _; rw [ints_size, ints_size, HL.out.len, hr.len]); clear hr hf hb4)
            | (refine wpList_store_row rfl 42 _ _ rfl (n + 1 + 1) (ints .u64 R) rfl rfl 42 _ HO4.out.heap HIR.out HZR.out (onek .u64 R) ?_)
            | fail)
          go_roundw
          case rel =>
            refine ⟨m + 1, R, by omega, ?_, HR.out, ?_, ?_, ?_, HO4.out.row R, ?_⟩
            · go_num
            · rw [HFR.eq, HN2.eq, HF.eq]
            · rw [setRow_other _ _ _ _ (by omega)]
              rw [HB4.out.block n (by have := HO.out.lt; omega)]
              exact HA.out
            · exact (HZ.out.below HB4.out).rowOther _ _ (by omega)
            · exact below_setRow (HB.out.trans (HB4.out.mono (by have := HO.out.lt; omega))) (by omega) _
          case measure => simp [intOf]; omega
      · have HN2 := Is.mk (HSM.out m hsk)
        have g2 : (254 - (m : Int) != 2) = true := by simp; omega
        have g4 : (254 - (m : Int) != 4) = true := by simp; omega
        clear hsk q
        go_upto_region 6 with (first
            | (refine wpList_load_row rfl 42 _ rfl (n + 1 + 1) rfl 42 _ (0, 0) _ HO.out.heap Try.underlying42 rfl HIL.out ?_)
            | (go_at_call 20; (with_reducible refine (HC.out _).mono ?_); rintro e4 w4 ⟨R, rfl, hr, hf, hb4⟩; have HR := hidden hr; have HFR := Is.mk hf; have HB4 := hidden hb4; have HO4 := hidden (HO.out.below hb4); have HIR := hidden (infoE R hr.len); have HZR : Hid ((ints .u64 L).size = (ints .u64 R).size) := (by show _ = _; rw [ints_size, ints_size, HL.out.len, hr.len]); clear hr hf hb4)
            | (refine wpList_store_row rfl 42 _ _ rfl (n + 1 + 1) (ints .u64 R) rfl rfl 42 _ HO4.out.heap HIR.out HZR.out (onek .u64 R) ?_)
            | fail)
        generalize hw5 : World.setRow w4 _ _ = w5
        have HO5 : Hid (Wn .u64 w5 (n + 1 + 1) 42 R) := by rw [← hw5]; exact hidden (HO4.out.row R)
        have HZ5 : Hid (Wn .u64 w5 (n + 1) 42 (List.replicate 5 0)) := by rw [← hw5]; exact hidden ((HZ.out.below HB4.out).rowOther _ _ (by omega))
        have HB5 : Hid (Below n w w5) := by rw [← hw5]; exact hidden (below_setRow (HB.out.trans (HB4.out.mono (by have := HO.out.lt; omega))) (by omega) _)
        have HA5 : Hid (w5.heap[n]? = some (.cells SA 42 (0, 0))) := by
          rw [← hw5, setRow_other _ _ _ _ (by omega), HB4.out.block n (by have := HO.out.lt; omega)]
          exact HA.out
        have HCA := hidden (HPA.out R HR.out)
        clear hw5 HA HZ HB HO4 HB4 HZR HC HO
        go_wp2_with (first
            | (refine wpList_load_row rfl 42 _ rfl (n + 1 + 1) rfl 42 _ (0, 0) _ HO5.out.heap Try.underlying42 rfl HIR.out ?_)
            | (refine wpList_load_row rfl 42 _ rfl n rfl 42 _ (0, 0) _ HA5.out Try.underlying42 rfl HIA.out ?_)
            | (go_at_call 20; (with_reducible refine (HCA.out _).mono ?_); rintro e6 w6 ⟨R', rfl, hr, hf, hb6⟩; have HR2 := hidden hr; have HFR2 := Is.mk hf; have HB6 := hidden hb6; have HO6 := hidden (HO5.out.below hb6); have HIR2 := hidden (infoE R' hr.len); have HZR2 : Hid ((ints .u64 R).size = (ints .u64 R').size) := (by show _ = _; rw [ints_size, ints_size, HR.out.len, hr.len]); clear hr hf hb6)
            | (refine wpList_store_row rfl 42 _ _ rfl (n + 1 + 1) (ints .u64 R') rfl rfl 42 _ HO6.out.heap HIR2.out HZR2.out (onek .u64 R') ?_)
            | fail)
        go_roundw
        case rel =>
          refine ⟨m + 1, R', by omega, ?_, HR2.out, ?_, ?_, ?_, HO6.out.row R', ?_⟩
          · go_num
          · rw [HFR2.eq, HN2.eq, HFR.eq, HF.eq]
          · rw [setRow_other _ _ _ _ (by omega)]
            rw [HB6.out.block n (by have := HO5.out.lt; omega)]
            exact HA5.out
          · exact (HZ5.out.below HB6.out).rowOther _ _ (by omega)
          · exact below_setRow (HB5.out.trans (HB6.out.mono (by have := HO5.out.lt; omega))) (by omega) _
        case measure => simp [intOf]; omega
    · have hme : m = 255 := by omega
      have b0 : ¬ (0 : Int) ≤ 254 - (m : Int) := by omega
      rw [← hme] at HFE
      have HZL := hidden (zero5 L HL.out.len)
      clear hme
      go_wp2_with (first
        | (refine wpList_load_row rfl 42 _ rfl (n + 1 + 1) rfl 42 _ (0, 0) _ HO.out.heap Try.underlying42 rfl HIL.out ?_)
        | (refine wpList_store_row rfl 42 _ _ rfl (n + 1) (ints .u64 L) rfl rfl 42 _ HZ.out.heap HIL.out HZL.out (onek .u64 L) ?_)
        | fail)
      refine bodyPost_ret (results_cell_row rfl _ _ (n + 1) 42 _ _ _ rfl (HZ.out.row L).heap Try.underlying42 rfl HIL.out) rfl ?_
      exact ⟨L, rfl, HL.out, by rw [HF.eq, HFE.eq], by rw [HN.out]; exact below_setRow HB.out (by omega) _⟩
end Go.Proofs.Ytilnbmlbahflkaa
