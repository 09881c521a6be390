/-
  The document's inverse; its functions as elements.
-/
import Derived.Test.YtilnbmlbahflkaaMRCrvMul
import Derived.Test.YtilnbmlbahflkaaMCrvInv
namespace Go.Proofs.Ytilnbmlbahflkaa
open Go.RowKit
set_option linter.unusedVariables false

theorem fmul_any (A B : List Int) (hA : Ld 65536 A) (hB : Ld 65536 B) (w : World) :
    Calls Try.prog 25 #[.agg (ints .u64 A), .agg (ints .u64 B)] w fun e w' => ∃ R, e = .returned (.agg (ints .u64 R)) ∧ Ld 65536 R ∧ fd R = fd A * fd B ∧ Below w.heap.size w w' :=
  (rmul_any A B hA hB w).mono fun e w' ⟨h, hb⟩ => ⟨_, h, carL_ok _ (colD_ld hA hB), by rw [carL_fd, colD_fd A B hA.len hB.len], hb⟩
theorem fadd_any (A B : List Int) (hA : Ld 65536 A) (hB : Ld 65536 B) (w : World) :
    Calls Try.prog 23 #[.agg (ints .u64 A), .agg (ints .u64 B)] w fun e w' => ∃ R, e = .returned (.agg (ints .u64 R)) ∧ Ld 65536 R ∧ fd R = fd A + fd B ∧ Below w.heap.size w w' :=
  (radd_any A B hA hB w).mono fun e w' ⟨h, hb⟩ => ⟨_, h, carL_ok _ (add_ld hA hB), by rw [carL_fd, add_fd hA.len hB.len], hb⟩
theorem fsub_any (A B : List Int) (hA : Ld 65536 A) (hB : Ld 65536 B) (w : World) :
    Calls Try.prog 24 #[.agg (ints .u64 A), .agg (ints .u64 B)] w fun e w' => ∃ R, e = .returned (.agg (ints .u64 R)) ∧ Ld 65536 R ∧ fd R = fd A - fd B ∧ Below w.heap.size w w' :=
  (rsub_any A B hA hB w).mono fun e w' ⟨h, hb⟩ => ⟨_, h, carL_ok _ (neg_ld hA hB), by rw [carL_fd, neg_fd hA.len hB.len], hb⟩
theorem fsmall_any (A : List Int) (hA : Ld 65536 A) (w : World) :
    Calls Try.prog 26 #[.agg (ints .u64 A), .int .u64 121665] w fun e w' => ∃ R, e = .returned (.agg (ints .u64 R)) ∧ Ld 65536 R ∧ fd R = 121665 * fd A ∧ Below w.heap.size w w' :=
  (rsmall_any A hA w).mono fun e w' ⟨h, hb⟩ => ⟨_, h, carL_ok _ (scale_ld hA), by rw [carL_fd, scale_fd], hb⟩
theorem one16 : Ld 65536 [1, 0, 0, 0, 0, 0, 0, 0, 0, 0, 0, 0, 0, 0, 0, 0] := ⟨rfl, by decide⟩
theorem fd_one : fd [1, 0, 0, 0, 0, 0, 0, 0, 0, 0, 0, 0, 0, 0, 0, 0] = 1 := by
  unfold fd
  rw [show num B16 [1, 0, 0, 0, 0, 0, 0, 0, 0, 0, 0, 0, 0, 0, 0, 0] = 1 by decide]
  exact toK_lit1
theorem null16 : Ld 65536 (List.replicate 16 0) := ⟨rfl, by decide⟩
theorem fd_null : fd (List.replicate 16 0) = 0 := by
  unfold fd
  rw [show num B16 (List.replicate 16 0) = 0 by decide]
  exact toK_lit0

set_option maxHeartbeats 1600000 in
set_option maxRecDepth 100000 in
theorem finv_any (A : List Int) (hA : Ld 65536 A) (w : World) :
    Calls Try.prog 28 #[.agg (ints .u64 A)] w fun e w' => ∃ R, e = .returned (.agg (ints .u64 R)) ∧ Ld 65536 R ∧ fd R = kinv (fd A) ∧ Below w.heap.size w w' := by
  have HIA := hidden (infoD A hA.len)
  have HA2 := hidden hA
  have HFE := Is.mk (invS_end (fd A))
  have HS0 := Is.mk (invS_zero (fd A))
  have HSK := hidden (fun m h => invS_skip (fd A) m h)
  have HSM := hidden (fun m h => invS_mul (fd A) m h)
  have HPR := hidden (fun (L : List Int) (hL : Ld 65536 L) (W : World) => fmul_any L L hL hL W)
  have HPA := hidden (fun (L : List Int) (hL : Ld 65536 L) (W : World) => fmul_any L A hL HA2.out W)
  have HL1 := hidden one16
  have HF1 := Is.mk fd_one
  generalize hx : fd A = x at *
  clear hx hA HA2
  generalize hSA : ints .u64 A = SA at HIA HPA ⊢
  clear hSA
  go_enter Try.func28, Try.ntmps28
  go_upto_region 2 with fail
  generalize hw1 : World.alloc _ (.cells _ 54) = w1
  have hA : w1.heap[w.heap.size]? = some (.cells SA 54 (0, 0)) := by
    rw [← hw1, Below.heap_alloc _ _ _ (by simp; omega), heap_1st]
  have hZ : Wn .u64 w1 (w.heap.size + 1) 54 (List.replicate 16 0) := by
    rw [← hw1]
    exact (Wn.new' .u64 _ 54 (List.replicate 16 0) _ rfl _ (by simp)).alloc _
  have hO : Wn .u64 w1 (w.heap.size + 1 + 1) 54 [1, 0, 0, 0, 0, 0, 0, 0, 0, 0, 0, 0, 0, 0, 0, 0] := by
    rw [← hw1]
    exact Wn.new' .u64 _ 54 [1, 0, 0, 0, 0, 0, 0, 0, 0, 0, 0, 0, 0, 0, 0, 0] _ rfl _ (by simp)
  have hb : Below w.heap.size w w1 := by
    rw [← hw1]
    exact (((Below.refl _ w).alloc (Nat.le_refl _) _).alloc (by simp) _).alloc (by simp; omega) _
  clear hw1
  obtain ⟨n, hn⟩ : ∃ n, w.heap.size = n := ⟨_, rfl⟩
  simp only [hn] at hA hZ hO hb ⊢
  have HN := hidden hn
  have HA0 := hidden hA
  have HZ0 := hidden hZ
  have HO0 := hidden hO
  have HB0 := hidden hb
  clear hA hZ hO hb hn
  go_wp2
  go_loopw [4] (fun i wr => ∃ (m : Nat) (L : List Int), m ≤ 255 ∧ i = .int .i64 (254 - (m : Int)) ∧ Ld 65536 L ∧ fd L = invS x m ∧ wr.heap[n]? = some (.cells SA 54 (0, 0)) ∧ Wn .u64 wr (n + 1) 54 (List.replicate 16 0) ∧ Wn .u64 wr (n + 1 + 1) 54 L ∧ Below n w wr) (fun i _ => (intOf i + 1).toNat)
  case atStart => exact ⟨0, [1, 0, 0, 0, 0, 0, 0, 0, 0, 0, 0, 0, 0, 0, 0, 0], by omega, rfl, HL1.out, by rw [HF1.eq, HS0.eq], HA0.out, HZ0.out, HO0.out, HB0.out⟩
  case round =>
    obtain ⟨m, L, hm, rfl, hl, hf, ha, hz, ho, hb⟩ := hrel
    have HL := hidden hl
    have HF := Is.mk hf
    have HA := hidden ha
    have HZ := hidden hz
    have HO := hidden ho
    have HB := hidden hb
    have HIL := hidden (infoD L hl.len)
    have HC := hidden (HPR.out L hl)
    clear hl hf ha hz ho hb HA0 HZ0 HO0 HB0
    by_cases hlt : m < 255
    · have b0 : (0 : Int) ≤ 254 - (m : Int) := by omega
      have q : Hid (m = 252 ∨ m = 250 ∨ ¬ (m = 252 ∨ m = 250)) := by show _ ∨ _ ∨ _; omega
      by_cases hsk : m = 252 ∨ m = 250
      · have HN2 := Is.mk (HSK.out m hsk)
        have hg : ((254 - (m : Int) != 2) = false ∧ (254 - (m : Int) != 4) = true) ∨ ((254 - (m : Int) != 2) = true ∧ (254 - (m : Int) != 4) = false) := by
          rcases hsk with rfl | rfl
          · exact Or.inl ⟨rfl, rfl⟩
          · exact Or.inr ⟨rfl, rfl⟩
        clear hsk q
        rcases hg with ⟨g2, g4⟩ | ⟨g2, g4⟩
        all_goals
          go_wp2_with (first
            | (refine wpList_load_row rfl 54 _ rfl (n + 1 + 1) rfl 54 _ (0, 0) _ HO.out.heap Try.underlying54 rfl HIL.out ?_)
            | (go_at_call 25; (with_reducible refine (HC.out _).mono ?_); rintro e4 w4 ⟨R, rfl, hr, hf, hb4⟩; have HR := hidden hr; have HFR := Is.mk hf; have HB4 := hidden hb4; have HO4 := hidden (HO.out.below hb4); have HIR := hidden (infoD R hr.len); have HZR : Hid ((ints .u64 L).size = (ints .u64 R).size) := (by show _ = _; rw [ints_size, ints_size, HL.out.len, hr.len]); clear hr hf hb4)
            | (refine wpList_store_row rfl 54 _ _ rfl (n + 1 + 1) (ints .u64 R) rfl rfl 54 _ HO4.out.heap HIR.out HZR.out (onek .u64 R) ?_)
            | fail)
          go_roundw
          case rel =>
            refine ⟨m + 1, R, by omega, ?_, HR.out, ?_, ?_, ?_, HO4.out.row R, ?_⟩
            · go_num
            · rw [HFR.eq, HN2.eq, HF.eq]
            · rw [setRow_other _ _ _ _ (by omega)]
              rw [HB4.out.block n (by have := HO.out.lt; omega)]
              exact HA.out
            · exact (HZ.out.below HB4.out).rowOther _ _ (by omega)
            · exact below_setRow (HB.out.trans (HB4.out.mono (by have := HO.out.lt; omega))) (by omega) _
          case measure => simp [intOf]; omega
      · have HN2 := Is.mk (HSM.out m hsk)
        have g2 : (254 - (m : Int) != 2) = true := by simp; omega
        have g4 : (254 - (m : Int) != 4) = true := by simp; omega
        clear hsk q
        go_upto_region 6 with (first
            | (refine wpList_load_row rfl 54 _ rfl (n + 1 + 1) rfl 54 _ (0, 0) _ HO.out.heap Try.underlying54 rfl HIL.out ?_)
            | (go_at_call 25; (with_reducible refine (HC.out _).mono ?_); rintro e4 w4 ⟨R, rfl, hr, hf, hb4⟩; have HR := hidden hr; have HFR := Is.mk hf; have HB4 := hidden hb4; have HO4 := hidden (HO.out.below hb4); have HIR := hidden (infoD R hr.len); have HZR : Hid ((ints .u64 L).size = (ints .u64 R).size) := (by show _ = _; rw [ints_size, ints_size, HL.out.len, hr.len]); clear hr hf hb4)
            | (refine wpList_store_row rfl 54 _ _ rfl (n + 1 + 1) (ints .u64 R) rfl rfl 54 _ HO4.out.heap HIR.out HZR.out (onek .u64 R) ?_)
            | fail)
        generalize hw5 : World.setRow w4 _ _ = w5
        have HO5 : Hid (Wn .u64 w5 (n + 1 + 1) 54 R) := by rw [← hw5]; exact hidden (HO4.out.row R)
        have HZ5 : Hid (Wn .u64 w5 (n + 1) 54 (List.replicate 16 0)) := by rw [← hw5]; exact hidden ((HZ.out.below HB4.out).rowOther _ _ (by omega))
        have HB5 : Hid (Below n w w5) := by rw [← hw5]; exact hidden (below_setRow (HB.out.trans (HB4.out.mono (by have := HO.out.lt; omega))) (by omega) _)
        have HA5 : Hid (w5.heap[n]? = some (.cells SA 54 (0, 0))) := by
          rw [← hw5, setRow_other _ _ _ _ (by omega), HB4.out.block n (by have := HO.out.lt; omega)]
          exact HA.out
        have HCA := hidden (HPA.out R HR.out)
        clear hw5 HA HZ HB HO4 HB4 HZR HC HO
        go_wp2_with (first
            | (refine wpList_load_row rfl 54 _ rfl (n + 1 + 1) rfl 54 _ (0, 0) _ HO5.out.heap Try.underlying54 rfl HIR.out ?_)
            | (refine wpList_load_row rfl 54 _ rfl n rfl 54 _ (0, 0) _ HA5.out Try.underlying54 rfl HIA.out ?_)
            | (go_at_call 25; (with_reducible refine (HCA.out _).mono ?_); rintro e6 w6 ⟨R', rfl, hr, hf, hb6⟩; have HR2 := hidden hr; have HFR2 := Is.mk hf; have HB6 := hidden hb6; have HO6 := hidden (HO5.out.below hb6); have HIR2 := hidden (infoD R' hr.len); have HZR2 : Hid ((ints .u64 R).size = (ints .u64 R').size) := (by show _ = _; rw [ints_size, ints_size, HR.out.len, hr.len]); clear hr hf hb6)
            | (refine wpList_store_row rfl 54 _ _ rfl (n + 1 + 1) (ints .u64 R') rfl rfl 54 _ HO6.out.heap HIR2.out HZR2.out (onek .u64 R') ?_)
            | fail)
        go_roundw
        case rel =>
          refine ⟨m + 1, R', by omega, ?_, HR2.out, ?_, ?_, ?_, HO6.out.row R', ?_⟩
          · go_num
          · rw [HFR2.eq, HN2.eq, HFR.eq, HF.eq]
          · rw [setRow_other _ _ _ _ (by omega)]
            rw [HB6.out.block n (by have := HO5.out.lt; omega)]
            exact HA5.out
          · exact (HZ5.out.below HB6.out).rowOther _ _ (by omega)
          · exact below_setRow (HB5.out.trans (HB6.out.mono (by have := HO5.out.lt; omega))) (by omega) _
        case measure => simp [intOf]; omega
    · have hme : m = 255 := by omega
      have b0 : ¬ (0 : Int) ≤ 254 - (m : Int) := by omega
      rw [← hme] at HFE
      have HZL := hidden (zero16 L HL.out.len)
      clear hme
      go_wp2_with (first
        | (refine wpList_load_row rfl 54 _ rfl (n + 1 + 1) rfl 54 _ (0, 0) _ HO.out.heap Try.underlying54 rfl HIL.out ?_)
        | (refine wpList_store_row rfl 54 _ _ rfl (n + 1) (ints .u64 L) rfl rfl 54 _ HZ.out.heap HIL.out HZL.out (onek .u64 L) ?_)
        | fail)
      refine bodyPost_ret (results_cell_row rfl _ _ (n + 1) 54 _ _ _ rfl (HZ.out.row L).heap Try.underlying54 rfl HIL.out) rfl ?_
      exact ⟨L, rfl, HL.out, by rw [HF.eq, HFE.eq], by rw [HN.out]; exact below_setRow HB.out (by omega) _⟩
end Go.Proofs.Ytilnbmlbahflkaa
