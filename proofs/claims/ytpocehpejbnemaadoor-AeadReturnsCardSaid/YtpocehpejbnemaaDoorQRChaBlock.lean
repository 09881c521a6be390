/-
  The document's Block.
-/
import Derived.Test.YtpocehpejbnemaaDoorQRChaMix
import Derived.Test.YtpocehpejbnemaaDoorQChaInit
import Derived.Test.YtpocehpejbnemaaDoorQBod
namespace Go.Proofs.YtpocehpejbnemaaDoor
open Go.RowKit
set_option linter.unusedVariables false
set_option linter.unusedSimpArgs false

theorem four_byt {w : World} {g : Nat} {x y z u : Int} (hx : 0 ≤ x ∧ x ≤ 255) (hy : 0 ≤ y ∧ y ≤ 255) (hz : 0 ≤ z ∧ z ≤ 255) (hu : 0 ≤ u ∧ u ≤ 255) (h : ∀ j, j < 4 → w.cell? ⟨g, j, none⟩ = some (.int .u8 ([x, y, z, u].getD j 0))) : Byt w (some ⟨g, 0, none⟩) 4 4 [x, y, z, u] :=
  ⟨rfl, Nat.le_refl _, by unfold maxLen; omega, fun v hv => by
    simp at hv
    rcases hv with rfl | rfl | rfl | rfl
    · exact hx
    · exact hy
    · exact hz
    · exact hu, fun _ => ⟨g, 0, rfl, fun i hi => by
      rw [Nat.zero_add]
      exact h i hi⟩⟩
theorem rblock_no (p q : Option Addr) (n c m d : Nat) (ctr : Int) (w : World) (hn : n ≤ 9223372036854775807) (hm : m ≤ 9223372036854775807) (h : ¬ (n = 32 ∧ m = 12)) :
    Calls Tryd.prog 37 #[.slice p n c, .int .u32 ctr, .slice q m d] w fun e w' => e = .returned (.tuple #[.slice none 0 0, .bool false]) ∧ w = w' := by
  by_cases h1 : n = 32
  · subst h1
    have e2 : ((m : Int) != 12) = true := by simp; omega
    clear h
    go_enter Tryd.func37, Tryd.ntmps37
    go_wp2
    go_ret2
    exact ⟨rfl, rfl⟩
  · have e1 : ((n : Int) != 32) = true := by simp; omega
    clear h
    go_enter Tryd.func37, Tryd.ntmps37
    go_wp2
    go_ret2
    exact ⟨rfl, rfl⟩
theorem rxor_no (p q : Option Addr) (n c m d : Nat) (ctr : Int) (r : Option Addr) (k e : Nat) (w : World) (hn : n ≤ 9223372036854775807) (hm : m ≤ 9223372036854775807) (h : ¬ (n = 32 ∧ m = 12)) :
    Calls Tryd.prog 34 #[.slice p n c, .int .u32 ctr, .slice q m d, .slice r k e] w fun e w' => e = .returned (.tuple #[.slice none 0 0, .bool false]) ∧ w = w' := by
  by_cases h1 : n = 32
  · subst h1
    have e2 : ((m : Int) != 12) = true := by simp; omega
    clear h
    go_enter Tryd.func34, Tryd.ntmps34
    go_wp2
    go_ret2
    exact ⟨rfl, rfl⟩
  · have e1 : ((n : Int) != 32) = true := by simp; omega
    clear h
    go_enter Tryd.func34, Tryd.ntmps34
    go_wp2
    go_ret2
    exact ⟨rfl, rfl⟩
theorem putW_at (L key : List Int) (c : Int) : (putW ([0x61707865, 0x3320646e, 0x79622d32, 0x6b206574, 0, 0, 0, 0, 0, 0, 0, 0, 0, 0, 0, 0]) key 4 8).set 12 c = putW ([0x61707865, 0x3320646e, 0x79622d32, 0x6b206574, 0, 0, 0, 0, 0, 0, 0, 0, c, 0, 0, 0]) key 4 8 := by
  have h1 := wordsLE_len key 8
  obtain ⟨A, hA⟩ : ∃ A, wordsLE key 8 = A := ⟨_, rfl⟩
  unfold putW
  rw [hA] at h1 ⊢
  match A, h1 with
  | [a0, a1, a2, a3, a4, a5, a6, a7], _ => simp

theorem Own.typedR {w : World} {base : Nat} {e : TypeId} {v : Value} {xs : List Int} (h : Own w base e v xs) (k : Nat) (hk : v.ownBlock = some k) : ∃ cur, w.heap[k]? = some (.cells cur e (0, 0)) := by
  rcases h.2 with ⟨rfl, _⟩ | ⟨g, cap, cur, rfl, _, hh, _⟩
  · simp [Value.ownBlock] at hk
  · simp [Value.ownBlock] at hk
    subst hk
    exact ⟨cur, hh⟩

set_option maxHeartbeats 3200000 in
set_option maxRecDepth 100000 in
theorem rblock_yes (p q : Option Addr) (c d : Nat) (key nonce : List Int) (ctr : Int) (w : World) (h : Byt w p 32 c key) (h' : Byt w q 12 d nonce) :
    Calls Tryd.prog 37 #[.slice p 32 c, .int .u32 ctr, .slice q 12 d] w fun e w' => ∃ v, e = .returned (.tuple #[v, .bool true]) ∧ Own w' w.heap.size 5 v (blockC key ctr nonce) ∧ Below w.heap.size w w' := by
  obtain ⟨i0, hi0, hz0, hz1, hz2⟩ := info_parts Tryd.infoByte
  have HW1 := hidden (fun (j : Nat) (hj : j < 8) W (hW : Below w.heap.size w W) => rword_any p 32 c key j W (h.below hW) (by omega) (by omega))
  have HW2 := hidden (fun (j : Nat) (hj : j < 3) W (hW : Below w.heap.size w W) => rword_any q 12 d nonce j W (h'.below hW) (by omega) (by omega))
  obtain ⟨F, hF⟩ : ∃ F, initC key ctr nonce = F := ⟨_, rfl⟩
  have hFl : F.length = 16 := by rw [← hF, initC_len]
  obtain ⟨E, hE⟩ : ∃ E, rndsC 10 F = E := ⟨_, rfl⟩
  obtain ⟨R, hR⟩ : ∃ R, blockC key ctr nonce = R := ⟨_, rfl⟩
  have hRE : bytesLE (sums E F 16) = R := by rw [← hR, ← hE, ← hF]; rfl
  rw [hR]
  obtain ⟨L0, hL0⟩ : ∃ L0 : List Int, [0x61707865, 0x3320646e, 0x79622d32, 0x6b206574, 0, 0, 0, 0, 0, 0, 0, 0, 0, 0, 0, 0] = L0 := ⟨_, rfl⟩
  obtain ⟨L1, hL1⟩ : ∃ L1 : List Int, putW [0x61707865, 0x3320646e, 0x79622d32, 0x6b206574, 0, 0, 0, 0, 0, 0, 0, 0, ctr, 0, 0, 0] key 4 8 = L1 := ⟨_, rfl⟩
  have hof := initC_of key ctr nonce
  have hat := putW_at L0 key ctr
  rw [hL0] at hat
  rw [hL1] at hof hat
  rw [hF] at hof
  have hl0 : L0.length = 16 := by rw [← hL0]; rfl
  have hl1 : L1.length = 16 := by rw [← hat, List.length_set, putW_len _ _ _ _ (by omega), hl0]
  have HL0 := Is.mk hL0
  have HOF := Is.mk hof
  have HAT := Is.mk hat
  have HLL0 := Is.mk hl0
  have HLL1 := Is.mk hl1
  have HFL := Is.mk hFl
  have HE := Is.mk hE
  have HEL : Is E.length 16 := ⟨by rw [← hE, rndsC_len, hFl]⟩
  have HRE := Is.mk hRE
  have hiL : ∀ L : List Int, L.length = 16 → (Tryd.prog.info? 84).map (·.size) = some ((L.map (Value.int .u32)).toArray).size := fun L hL => by rw [infoS16]; simp [hL]
  have HIL := hidden hiL
  have hzL : ∀ L M : List Int, L.length = 16 → M.length = 16 → ((L.map (Value.int .u32)).toArray).size = ((M.map (Value.int .u32)).toArray).size := fun L M hL hM => by simp [hL, hM]
  have HZL := hidden hzL
  have HB0 := hidden (Below.refl w.heap.size w)
  clear h h' hF hFl hE hR hRE hL0 hL1 hof hat hl0 hl1 hiL hzL
  go_enter Tryd.func37, Tryd.ntmps37
  go_upto_region 4 with fail
  generalize hw1 : w.alloc (.cells _ 84) = w1
  have hd : Wd w1 w.heap.size 84 L0 := by
    rw [← hw1, ← HL0.eq]
    exact Wd.new w 84 [1634760805, 857760878, 2036477234, 1797285236, 0, 0, 0, 0, 0, 0, 0, 0, 0, 0, 0, 0] _ rfl
  have hb : Below w.heap.size w w1 := by
    rw [← hw1]
    exact (Below.refl _ w).alloc (Nat.le_refl _) _
  clear hw1
  obtain ⟨n, hn⟩ : ∃ n, w.heap.size = n := ⟨_, rfl⟩
  simp only [hn] at hd hb ⊢
  rw [hn] at HW1 HW2
  have HN := hidden hn
  have HD := hidden hd
  have HB := hidden hb
  clear hd hb hn HB0
  go_wp2
  go_loopw [9] (fun i wr => ∃ j : Nat, j ≤ 8 ∧ i = .int .i64 j ∧ Wd wr n 84 (putW L0 key 4 j) ∧ Below n w wr) (fun i _ => 8 - (intOf i).toNat)
  case atStart => exact ⟨0, by omega, rfl, by rw [putW_zero]; exact HD.out, HB.out⟩
  case round =>
    obtain ⟨j, hj, rfl, hd, hb⟩ := hrel
    have HD := hidden hd
    have HB := hidden hb
    clear hd hb
    by_cases hlt : j < 8
    · have HC := hidden (HW1.out j hlt wr HB.out)
      have hx := HD.out.cell (4 + j) (by rw [putW_len _ _ _ _ (by have := HLL0.eq; omega), HLL0.eq]; omega)
      have hfx := HD.out.fr (4 + j)
      have hput := putW_next L0 key 4 j (by have := HLL0.eq; omega)
      have HPUT := Is.mk hput
      generalize leW key j = v at *
      have b0 : (0 : Int) ≤ 4 + (j : Int) := by omega
      have b1 : 4 + (j : Int) < 16 := by omega
      have b2 : (4 + (j : Int)).toNat = 4 + j := by omega
      clear hput
      go_wp2_with (first
        | (go_at_call 79; (with_reducible refine (HC.out).mono ?_); rintro e w2 ⟨rfl, rr, rfl⟩)
        | fail)
      go_roundw
      case rel => exact ⟨j + 1, by omega, by go_num, by rw [← HPUT.eq]; exact (⟨HD.out.heap⟩ : Wd (wr.drewN rr) n 84 _).set _ _, (HB.out.trans (below_drewC _ _)).setCell (Nat.le_refl _) _⟩
      case measure => simp [intOf]; omega
    · have hj8 : j = 8 := by omega
      rw [hj8] at HD
      have hge : ¬ (j : Int) < 8 := by omega
      clear hj8
      have hx := HD.out.cell 12 (by rw [putW_len _ _ _ _ (by have := HLL0.eq; omega), HLL0.eq]; omega)
      have hfx := HD.out.fr 12
      have HD1 := hidden (HD.out.set 12 ctr)
      rw [HAT.eq] at HD1
      have HB1 := hidden (HB.out.setCell (p := ⟨n, 12, none⟩) (Nat.le_refl _) (.int .u32 ctr))
      go_wp2
      go_loopw [10] (fun i wr => ∃ j : Nat, j ≤ 3 ∧ i = .int .i64 j ∧ Wd wr n 84 (putW L1 nonce 13 j) ∧ Below n w wr) (fun i _ => 3 - (intOf i).toNat)
      case atStart => exact ⟨0, by omega, rfl, by rw [putW_zero]; exact HD1.out, HB1.out⟩
      case round =>
        obtain ⟨j, hj, rfl, hd, hb⟩ := hrel
        have HD := hidden hd
        have HB := hidden hb
        clear hd hb HD1 HB1 hx hfx
        by_cases hlt : j < 3
        · have HC := hidden (HW2.out j hlt wr HB.out)
          have hx := HD.out.cell (13 + j) (by rw [putW_len _ _ _ _ (by have := HLL1.eq; omega), HLL1.eq]; omega)
          have hfx := HD.out.fr (13 + j)
          have hput := putW_next L1 nonce 13 j (by have := HLL1.eq; omega)
          have HPUT := Is.mk hput
          generalize leW nonce j = v at *
          have b0 : (0 : Int) ≤ 13 + (j : Int) := by omega
          have b1 : 13 + (j : Int) < 16 := by omega
          have b2 : (13 + (j : Int)).toNat = 13 + j := by omega
          clear hput
          go_wp2_with (first
            | (go_at_call 79; (with_reducible refine (HC.out).mono ?_); rintro e w2 ⟨rfl, rr, rfl⟩)
            | fail)
          go_roundw
          case rel => exact ⟨j + 1, by omega, by go_num, by rw [← HPUT.eq]; exact (⟨HD.out.heap⟩ : Wd (wr.drewN rr) n 84 _).set _ _, (HB.out.trans (below_drewC _ _)).setCell (Nat.le_refl _) _⟩
          case measure => simp [intOf]; omega
        · have hj3 : j = 3 := by omega
          have hge3 : ¬ (j : Int) < 3 := by omega
          have hdf := HD.out
          rw [hj3] at hdf
          clear hj3
          rw [HOF.eq] at hdf
          have HDF := hidden hdf
          have HIF := hidden (HIL.out F HFL.eq)
          have HZF := hidden (HZL.out (List.replicate 16 0) F (by simp) HFL.eq)
          have HOF1 := hidden (one32 F)
          have hlt0 := hdf.lt
          clear hdf
          go_wp2_with (first
            | (refine wpList_load_row rfl 84 _ rfl n rfl 84 _ (0, 0) _ HDF.out.heap Tryd.underlying84 rfl HIF.out ?_)
            | (refine wpList_store_row rfl 84 _ _ rfl wr.heap.size (F.map (Value.int .u32)).toArray rfl rfl 84 _ (heap_alloc_new wr _) HIF.out HZF.out HOF1.out ?_)
            | fail)
          obtain ⟨m, hm⟩ : ∃ m, wr.heap.size = m := ⟨_, rfl⟩
          have d1 : n ≠ m := by omega
          have d2 : n ≤ m := by omega
          have HM0 : Hid (Wd ((wr.alloc (.cells ((List.replicate 16 (0 : Int)).map (Value.int .u32)).toArray 84)).setRow m (F.map (Value.int .u32)).toArray) m 84 F) := by
            rw [← hm]
            exact (Wd.new wr 84 (List.replicate 16 0) _ rfl).row F
          have HF0 : Hid (Wd ((wr.alloc (.cells ((List.replicate 16 (0 : Int)).map (Value.int .u32)).toArray 84)).setRow m (F.map (Value.int .u32)).toArray) n 84 F) := (HDF.out.alloc _).rowOther _ _ d1
          have HB0 : Hid (Below n w ((wr.alloc (.cells ((List.replicate 16 (0 : Int)).map (Value.int .u32)).toArray 84)).setRow m (F.map (Value.int .u32)).toArray)) := below_setRow (HB.out.alloc (by omega) _) d2 _
          simp only [hm]
          clear hm HD HDF HB hlt0 HW1 HW2
          go_loopw [12] (fun i wr => ∃ j : Nat, j ≤ 10 ∧ i = .int .i64 j ∧ Wd wr m 84 (rndsC j F) ∧ Wd wr n 84 F ∧ Below n w wr) (fun i _ => 10 - (intOf i).toNat)
          case atStart => exact ⟨0, by omega, rfl, HM0.out, HF0.out, HB0.out⟩
          case round =>
            obtain ⟨k, hk, rfl, hm, hf, hb⟩ := hrel
            by_cases hk10 : k < 10
            · have hkd : decide ((k : Int) < 10) = true := by simp; omega
              obtain ⟨X, hX⟩ : ∃ X, rndsC k F = X := ⟨_, rfl⟩
              have HXL : Is X.length 16 := ⟨by rw [← hX, rndsC_len, HFL.eq]⟩
              have HNX : Is (rndsC (k + 1) F) (eight 8 X) := ⟨by rw [rndsC, hX]⟩
              rw [hX] at hm
              have HM := hidden hm
              have HFS := hidden hf
              have HB := hidden hb
              clear hm hf hb hX HM0 HF0 HB0
              go_wp2
              go_loopw [13] (fun i wr => ∃ j : Nat, j ≤ 4 ∧ i = .int .i64 j ∧ Wd wr m 84 (eight (0 + j) X) ∧ Wd wr n 84 F ∧ Below n w wr) (fun i _ => 4 - (intOf i).toNat)
              case atStart => exact ⟨0, by omega, rfl, HM.out, HFS.out, HB.out⟩
              case round =>
                obtain ⟨j, hj, rfl, hm, hf, hb⟩ := hrel
                have hcases : j = 0 ∨ j = 1 ∨ j = 2 ∨ j = 3 ∨ j = 4 := by omega
                obtain ⟨L, hL⟩ : ∃ L, eight (0 + j) X = L := ⟨_, rfl⟩
                have hLl : L.length = 16 := by rw [← hL, eight_len, HXL.eq]
                rw [hL] at hm
                have HLX := Is.mk hL
                have HLL := Is.mk hLl
                have HM := hidden hm
                have HFS := hidden hf
                have HB := hidden hb
                clear hm hf hb hL hLl
                rcases hcases with rfl | rfl | rfl | rfl | hj4
                · have HC : Hid (Calls Tryd.prog 80 #[.agg (L.map (Value.int .u32)).toArray, .int .i64 0, .int .i64 4, .int .i64 8, .int .i64 12] wr fun e w' => e = .returned (.agg ((mixL L 0 4 8 12).map (Value.int .u32)).toArray) ∧ Below wr.heap.size wr w') := rmix_any L 0 4 8 12 HLL.eq (by omega) (by omega) (by omega) (by omega) wr
                  have HMN : Is (eight 1 X) (mixL L 0 4 8 12) := ⟨by rw [← HLX.eq]; rfl⟩
                  have hml : (mixL L 0 4 8 12).length = 16 := by rw [mixL_len, HLL.eq]
                  generalize mixL L 0 4 8 12 = Y at *
                  have HYI := hidden (HIL.out Y hml)
                  have HLI := hidden (HIL.out L HLL.eq)
                  have HYZ := hidden (HZL.out L Y HLL.eq hml)
                  have HYO := hidden (one32 Y)
                  clear hml
                  go_wp2_with (first
                    | (refine wpList_load_row rfl 84 _ rfl m rfl 84 _ (0, 0) _ HM.out.heap Tryd.underlying84 rfl HLI.out ?_)
                    | (go_at_call 80; (with_reducible refine (HC.out).mono ?_); rintro e w2 ⟨rfl, hb2⟩; have HM2 := hidden (HM.out.below hb2); have HF2 := hidden (HFS.out.below hb2); have HB2 := hidden (HB.out.trans (hb2.mono (Nat.le_of_lt HFS.out.lt))); clear hb2)
                    | (refine wpList_store_row rfl 84 _ _ rfl m (Y.map (Value.int .u32)).toArray rfl rfl 84 _ HM2.out.heap HYI.out HYZ.out HYO.out ?_)
                    | fail)
                  go_roundw
                  case rel => exact ⟨1, by omega, by go_num, by rw [HMN.eq]; exact HM2.out.row Y, HF2.out.rowOther _ _ d1, below_setRow HB2.out d2 _⟩
                  case measure => simp [intOf]
                · have HC : Hid (Calls Tryd.prog 80 #[.agg (L.map (Value.int .u32)).toArray, .int .i64 1, .int .i64 5, .int .i64 9, .int .i64 13] wr fun e w' => e = .returned (.agg ((mixL L 1 5 9 13).map (Value.int .u32)).toArray) ∧ Below wr.heap.size wr w') := rmix_any L 1 5 9 13 HLL.eq (by omega) (by omega) (by omega) (by omega) wr
                  have HMN : Is (eight 2 X) (mixL L 1 5 9 13) := ⟨by rw [← HLX.eq]; rfl⟩
                  have hml : (mixL L 1 5 9 13).length = 16 := by rw [mixL_len, HLL.eq]
                  generalize mixL L 1 5 9 13 = Y at *
                  have HYI := hidden (HIL.out Y hml)
                  have HLI := hidden (HIL.out L HLL.eq)
                  have HYZ := hidden (HZL.out L Y HLL.eq hml)
                  have HYO := hidden (one32 Y)
                  clear hml
                  go_wp2_with (first
                    | (refine wpList_load_row rfl 84 _ rfl m rfl 84 _ (0, 0) _ HM.out.heap Tryd.underlying84 rfl HLI.out ?_)
                    | (go_at_call 80; (with_reducible refine (HC.out).mono ?_); rintro e w2 ⟨rfl, hb2⟩; have HM2 := hidden (HM.out.below hb2); have HF2 := hidden (HFS.out.below hb2); have HB2 := hidden (HB.out.trans (hb2.mono (Nat.le_of_lt HFS.out.lt))); clear hb2)
                    | (refine wpList_store_row rfl 84 _ _ rfl m (Y.map (Value.int .u32)).toArray rfl rfl 84 _ HM2.out.heap HYI.out HYZ.out HYO.out ?_)
                    | fail)
                  go_roundw
                  case rel => exact ⟨2, by omega, by go_num, by rw [HMN.eq]; exact HM2.out.row Y, HF2.out.rowOther _ _ d1, below_setRow HB2.out d2 _⟩
                  case measure => simp [intOf]
                · have HC : Hid (Calls Tryd.prog 80 #[.agg (L.map (Value.int .u32)).toArray, .int .i64 2, .int .i64 6, .int .i64 10, .int .i64 14] wr fun e w' => e = .returned (.agg ((mixL L 2 6 10 14).map (Value.int .u32)).toArray) ∧ Below wr.heap.size wr w') := rmix_any L 2 6 10 14 HLL.eq (by omega) (by omega) (by omega) (by omega) wr
                  have HMN : Is (eight 3 X) (mixL L 2 6 10 14) := ⟨by rw [← HLX.eq]; rfl⟩
                  have hml : (mixL L 2 6 10 14).length = 16 := by rw [mixL_len, HLL.eq]
                  generalize mixL L 2 6 10 14 = Y at *
                  have HYI := hidden (HIL.out Y hml)
                  have HLI := hidden (HIL.out L HLL.eq)
                  have HYZ := hidden (HZL.out L Y HLL.eq hml)
                  have HYO := hidden (one32 Y)
                  clear hml
                  go_wp2_with (first
                    | (refine wpList_load_row rfl 84 _ rfl m rfl 84 _ (0, 0) _ HM.out.heap Tryd.underlying84 rfl HLI.out ?_)
                    | (go_at_call 80; (with_reducible refine (HC.out).mono ?_); rintro e w2 ⟨rfl, hb2⟩; have HM2 := hidden (HM.out.below hb2); have HF2 := hidden (HFS.out.below hb2); have HB2 := hidden (HB.out.trans (hb2.mono (Nat.le_of_lt HFS.out.lt))); clear hb2)
                    | (refine wpList_store_row rfl 84 _ _ rfl m (Y.map (Value.int .u32)).toArray rfl rfl 84 _ HM2.out.heap HYI.out HYZ.out HYO.out ?_)
                    | fail)
                  go_roundw
                  case rel => exact ⟨3, by omega, by go_num, by rw [HMN.eq]; exact HM2.out.row Y, HF2.out.rowOther _ _ d1, below_setRow HB2.out d2 _⟩
                  case measure => simp [intOf]
                · have HC : Hid (Calls Tryd.prog 80 #[.agg (L.map (Value.int .u32)).toArray, .int .i64 3, .int .i64 7, .int .i64 11, .int .i64 15] wr fun e w' => e = .returned (.agg ((mixL L 3 7 11 15).map (Value.int .u32)).toArray) ∧ Below wr.heap.size wr w') := rmix_any L 3 7 11 15 HLL.eq (by omega) (by omega) (by omega) (by omega) wr
                  have HMN : Is (eight 4 X) (mixL L 3 7 11 15) := ⟨by rw [← HLX.eq]; rfl⟩
                  have hml : (mixL L 3 7 11 15).length = 16 := by rw [mixL_len, HLL.eq]
                  generalize mixL L 3 7 11 15 = Y at *
                  have HYI := hidden (HIL.out Y hml)
                  have HLI := hidden (HIL.out L HLL.eq)
                  have HYZ := hidden (HZL.out L Y HLL.eq hml)
                  have HYO := hidden (one32 Y)
                  clear hml
                  go_wp2_with (first
                    | (refine wpList_load_row rfl 84 _ rfl m rfl 84 _ (0, 0) _ HM.out.heap Tryd.underlying84 rfl HLI.out ?_)
                    | (go_at_call 80; (with_reducible refine (HC.out).mono ?_); rintro e w2 ⟨rfl, hb2⟩; have HM2 := hidden (HM.out.below hb2); have HF2 := hidden (HFS.out.below hb2); have HB2 := hidden (HB.out.trans (hb2.mono (Nat.le_of_lt HFS.out.lt))); clear hb2)
                    | (refine wpList_store_row rfl 84 _ _ rfl m (Y.map (Value.int .u32)).toArray rfl rfl 84 _ HM2.out.heap HYI.out HYZ.out HYO.out ?_)
                    | fail)
                  go_roundw
                  case rel => exact ⟨4, by omega, by go_num, by rw [HMN.eq]; exact HM2.out.row Y, HF2.out.rowOther _ _ d1, below_setRow HB2.out d2 _⟩
                  case measure => simp [intOf]
                · have HM4 : Hid (Wd wr m 84 (eight (4 + 0) X)) := by rw [show (4 + 0) = 0 + j by omega, HLX.eq]; exact HM.out
                  have hge4 : ¬ (j : Int) < 4 := by omega
                  clear HM HLX HLL hj4
                  have HM := HM4
                  go_wp2
                  go_loopw [14] (fun i wr => ∃ j : Nat, j ≤ 4 ∧ i = .int .i64 j ∧ Wd wr m 84 (eight (4 + j) X) ∧ Wd wr n 84 F ∧ Below n w wr) (fun i _ => 4 - (intOf i).toNat)
                  case atStart => exact ⟨0, by omega, rfl, HM.out, HFS.out, HB.out⟩
                  case round =>
                    obtain ⟨j, hj, rfl, hm, hf, hb⟩ := hrel
                    have hcases : j = 0 ∨ j = 1 ∨ j = 2 ∨ j = 3 ∨ j = 4 := by omega
                    obtain ⟨L, hL⟩ : ∃ L, eight (4 + j) X = L := ⟨_, rfl⟩
                    have hLl : L.length = 16 := by rw [← hL, eight_len, HXL.eq]
                    rw [hL] at hm
                    have HLX := Is.mk hL
                    have HLL := Is.mk hLl
                    have HM := hidden hm
                    have HFS := hidden hf
                    have HB := hidden hb
                    clear hm hf hb hL hLl
                    rcases hcases with rfl | rfl | rfl | rfl | hj4
                    · have HC : Hid (Calls Tryd.prog 80 #[.agg (L.map (Value.int .u32)).toArray, .int .i64 0, .int .i64 5, .int .i64 10, .int .i64 15] wr fun e w' => e = .returned (.agg ((mixL L 0 5 10 15).map (Value.int .u32)).toArray) ∧ Below wr.heap.size wr w') := rmix_any L 0 5 10 15 HLL.eq (by omega) (by omega) (by omega) (by omega) wr
                      have HMN : Is (eight 5 X) (mixL L 0 5 10 15) := ⟨by rw [← HLX.eq]; rfl⟩
                      have hml : (mixL L 0 5 10 15).length = 16 := by rw [mixL_len, HLL.eq]
                      generalize mixL L 0 5 10 15 = Y at *
                      have HYI := hidden (HIL.out Y hml)
                      have HLI := hidden (HIL.out L HLL.eq)
                      have HYZ := hidden (HZL.out L Y HLL.eq hml)
                      have HYO := hidden (one32 Y)
                      clear hml
                      go_wp2_with (first
                        | (refine wpList_load_row rfl 84 _ rfl m rfl 84 _ (0, 0) _ HM.out.heap Tryd.underlying84 rfl HLI.out ?_)
                        | (go_at_call 80; (with_reducible refine (HC.out).mono ?_); rintro e w2 ⟨rfl, hb2⟩; have HM2 := hidden (HM.out.below hb2); have HF2 := hidden (HFS.out.below hb2); have HB2 := hidden (HB.out.trans (hb2.mono (Nat.le_of_lt HFS.out.lt))); clear hb2)
                        | (refine wpList_store_row rfl 84 _ _ rfl m (Y.map (Value.int .u32)).toArray rfl rfl 84 _ HM2.out.heap HYI.out HYZ.out HYO.out ?_)
                        | fail)
                      go_roundw
                      case rel => exact ⟨1, by omega, by go_num, by rw [HMN.eq]; exact HM2.out.row Y, HF2.out.rowOther _ _ d1, below_setRow HB2.out d2 _⟩
                      case measure => simp [intOf]
                    · have HC : Hid (Calls Tryd.prog 80 #[.agg (L.map (Value.int .u32)).toArray, .int .i64 1, .int .i64 6, .int .i64 11, .int .i64 12] wr fun e w' => e = .returned (.agg ((mixL L 1 6 11 12).map (Value.int .u32)).toArray) ∧ Below wr.heap.size wr w') := rmix_any L 1 6 11 12 HLL.eq (by omega) (by omega) (by omega) (by omega) wr
                      have HMN : Is (eight 6 X) (mixL L 1 6 11 12) := ⟨by rw [← HLX.eq]; rfl⟩
                      have hml : (mixL L 1 6 11 12).length = 16 := by rw [mixL_len, HLL.eq]
                      generalize mixL L 1 6 11 12 = Y at *
                      have HYI := hidden (HIL.out Y hml)
                      have HLI := hidden (HIL.out L HLL.eq)
                      have HYZ := hidden (HZL.out L Y HLL.eq hml)
                      have HYO := hidden (one32 Y)
                      clear hml
                      go_wp2_with (first
                        | (refine wpList_load_row rfl 84 _ rfl m rfl 84 _ (0, 0) _ HM.out.heap Tryd.underlying84 rfl HLI.out ?_)
                        | (go_at_call 80; (with_reducible refine (HC.out).mono ?_); rintro e w2 ⟨rfl, hb2⟩; have HM2 := hidden (HM.out.below hb2); have HF2 := hidden (HFS.out.below hb2); have HB2 := hidden (HB.out.trans (hb2.mono (Nat.le_of_lt HFS.out.lt))); clear hb2)
                        | (refine wpList_store_row rfl 84 _ _ rfl m (Y.map (Value.int .u32)).toArray rfl rfl 84 _ HM2.out.heap HYI.out HYZ.out HYO.out ?_)
                        | fail)
                      go_roundw
                      case rel => exact ⟨2, by omega, by go_num, by rw [HMN.eq]; exact HM2.out.row Y, HF2.out.rowOther _ _ d1, below_setRow HB2.out d2 _⟩
                      case measure => simp [intOf]
                    · have HC : Hid (Calls Tryd.prog 80 #[.agg (L.map (Value.int .u32)).toArray, .int .i64 2, .int .i64 7, .int .i64 8, .int .i64 13] wr fun e w' => e = .returned (.agg ((mixL L 2 7 8 13).map (Value.int .u32)).toArray) ∧ Below wr.heap.size wr w') := rmix_any L 2 7 8 13 HLL.eq (by omega) (by omega) (by omega) (by omega) wr
                      have HMN : Is (eight 7 X) (mixL L 2 7 8 13) := ⟨by rw [← HLX.eq]; rfl⟩
                      have hml : (mixL L 2 7 8 13).length = 16 := by rw [mixL_len, HLL.eq]
                      generalize mixL L 2 7 8 13 = Y at *
                      have HYI := hidden (HIL.out Y hml)
                      have HLI := hidden (HIL.out L HLL.eq)
                      have HYZ := hidden (HZL.out L Y HLL.eq hml)
                      have HYO := hidden (one32 Y)
                      clear hml
                      go_wp2_with (first
                        | (refine wpList_load_row rfl 84 _ rfl m rfl 84 _ (0, 0) _ HM.out.heap Tryd.underlying84 rfl HLI.out ?_)
                        | (go_at_call 80; (with_reducible refine (HC.out).mono ?_); rintro e w2 ⟨rfl, hb2⟩; have HM2 := hidden (HM.out.below hb2); have HF2 := hidden (HFS.out.below hb2); have HB2 := hidden (HB.out.trans (hb2.mono (Nat.le_of_lt HFS.out.lt))); clear hb2)
                        | (refine wpList_store_row rfl 84 _ _ rfl m (Y.map (Value.int .u32)).toArray rfl rfl 84 _ HM2.out.heap HYI.out HYZ.out HYO.out ?_)
                        | fail)
                      go_roundw
                      case rel => exact ⟨3, by omega, by go_num, by rw [HMN.eq]; exact HM2.out.row Y, HF2.out.rowOther _ _ d1, below_setRow HB2.out d2 _⟩
                      case measure => simp [intOf]
                    · have HC : Hid (Calls Tryd.prog 80 #[.agg (L.map (Value.int .u32)).toArray, .int .i64 3, .int .i64 4, .int .i64 9, .int .i64 14] wr fun e w' => e = .returned (.agg ((mixL L 3 4 9 14).map (Value.int .u32)).toArray) ∧ Below wr.heap.size wr w') := rmix_any L 3 4 9 14 HLL.eq (by omega) (by omega) (by omega) (by omega) wr
                      have HMN : Is (eight 8 X) (mixL L 3 4 9 14) := ⟨by rw [← HLX.eq]; rfl⟩
                      have hml : (mixL L 3 4 9 14).length = 16 := by rw [mixL_len, HLL.eq]
                      generalize mixL L 3 4 9 14 = Y at *
                      have HYI := hidden (HIL.out Y hml)
                      have HLI := hidden (HIL.out L HLL.eq)
                      have HYZ := hidden (HZL.out L Y HLL.eq hml)
                      have HYO := hidden (one32 Y)
                      clear hml
                      go_wp2_with (first
                        | (refine wpList_load_row rfl 84 _ rfl m rfl 84 _ (0, 0) _ HM.out.heap Tryd.underlying84 rfl HLI.out ?_)
                        | (go_at_call 80; (with_reducible refine (HC.out).mono ?_); rintro e w2 ⟨rfl, hb2⟩; have HM2 := hidden (HM.out.below hb2); have HF2 := hidden (HFS.out.below hb2); have HB2 := hidden (HB.out.trans (hb2.mono (Nat.le_of_lt HFS.out.lt))); clear hb2)
                        | (refine wpList_store_row rfl 84 _ _ rfl m (Y.map (Value.int .u32)).toArray rfl rfl 84 _ HM2.out.heap HYI.out HYZ.out HYO.out ?_)
                        | fail)
                      go_roundw
                      case rel => exact ⟨4, by omega, by go_num, by rw [HMN.eq]; exact HM2.out.row Y, HF2.out.rowOther _ _ d1, below_setRow HB2.out d2 _⟩
                      case measure => simp [intOf]
                    · have HM8 : Hid (Wd wr m 84 (rndsC (k + 1) F)) := by rw [HNX.eq, show (8 : Nat) = 4 + j by omega, HLX.eq]; exact HM.out
                      have hge5 : ¬ (j : Int) < 4 := by omega
                      clear hj4
                      go_wp2
                      go_roundw
                      case rel => exact ⟨k + 1, by omega, by go_num, HM8.out, HFS.out, HB.out⟩
                      case measure => simp [intOf]; omega
            · have hke : k = 10 := by omega
              have hkd : decide ((k : Int) < 10) = false := by simp; omega
              have hgk : ¬ (k : Int) < 10 := by omega
              rw [hke, HE.eq] at hm
              clear hke
              have HM := hidden hm
              have HFS := hidden hf
              have HB := hidden hb
              clear hm hf hb HM0 HF0 HB0
              have HO0 : Hid (Own wr n 5 (.slice none 0 0) (bytesLE (sums E F 0))) := Own.nil _ _ _
              go_wp2
              go_loopw [15, 16] (fun u i wr => ∃ j : Nat, j ≤ 16 ∧ i = .int .i64 j ∧ Own wr n 5 u (bytesLE (sums E F j)) ∧ Wd wr m 84 E ∧ Wd wr n 84 F ∧ Below n w wr) (fun _ i _ => 16 - (intOf i).toNat)
              case atStart => exact ⟨0, by omega, rfl, HO0.out, HM.out, HFS.out, HB.out⟩
              case round =>
                obtain ⟨j, hj, rfl, ho, hm, hf, hb⟩ := hrel
                rename_i u15
                have HO := hidden ho
                have HM := hidden hm
                have HFS := hidden hf
                have HB := hidden hb
                clear ho hf hm hb HO0
                by_cases hlt : j < 16
                · have ce := HM.out.cell j (by rw [HEL.eq]; exact hlt)
                  have cf := HFS.out.cell j (by rw [HFL.eq]; exact hlt)
                  have HNB : Is (bytesLE (sums E F (j + 1))) (bytesLE (sums E F j) ++ le4 ((E.getD j 0 + F.getD j 0) % 4294967296)) := ⟨by rw [sums, bytesLE_append]; simp [bytesLE]⟩
                  have HLN := Is.mk (show (bytesLE (sums E F j)).length = 4 * j by rw [bytesLE_len, sums_len])
                  have hjd : decide ((j : Int) < 16) = true := by simp; omega
                  generalize E.getD j 0 = x at *
                  generalize F.getD j 0 = y at *
                  have b0 : (0 : Int) ≤ (j : Int) := by omega
                  have b1 : (j : Int) < 16 := by omega
                  go_upto_region 29 with fail
                  go_quiet (fail)
                  obtain ⟨v, hv⟩ : ∃ v, (x + y) % 4294967296 = v := ⟨_, rfl⟩
                  have hv0 : 0 ≤ v ∧ v < 4294967296 := by omega
                  rw [hv] at HNB
                  simp only [hv]
                  clear hv ce cf
                  have HOA := hidden ((show Own (wr.drewN nq) n 5 u15 _ from HO.out).alloc (.cells #[.int .u8 (v % 256), .int .u8 (v / 256 % 256), .int .u8 (v / 65536 % 256), .int .u8 (v / 16777216)] 5))
                  have HBY : Hid (Byt ((wr.drewN nq).alloc (.cells #[.int .u8 (v % 256), .int .u8 (v / 256 % 256), .int .u8 (v / 65536 % 256), .int .u8 (v / 16777216)] 5)) (some ⟨wr.heap.size, 0, none⟩) 4 4 [v % 256, v / 256 % 256, v / 65536 % 256, v / 16777216]) := by
                    refine four_byt (by omega) (by omega) (by omega) (by omega) (fun j hj => ?_)
                    show ((wr.drewN nq).alloc _).cell? ⟨(wr.drewN nq).heap.size, j, none⟩ = _
                    rw [cell_of_row _ _ _ _ _ _ (heap_alloc_new (wr.drewN nq) _)]
                    have : j = 0 ∨ j = 1 ∨ j = 2 ∨ j = 3 := by omega
                    rcases this with rfl | rfl | rfl | rfl <;> rfl
                  have hl4 : le4 v = [v % 256, v / 256 % 256, v / 65536 % 256, v / 16777216] := by unfold le4; rw [show v / 16777216 % 256 = v / 16777216 by omega]
                  rw [hl4] at HNB
                  have HBN := hidden (HFS.out.lt)
                  clear hl4
                  go_wp2_with (first
                    | (at_builtin; go_loud (refine wpList_append_byt _ rfl _ _ 22 rfl n 5 i0 (.int .u8 0) Tryd.underlying22 hi0 hz0 hz1 hz2 rfl _ _ rfl HOA.out _ _ _ _ _ rfl HBY.out rfl ?c2 ?c3 ?_))
                    | fail)
                  case c2 => rw [HLN.eq]; omega
                  case c3 => have := HBN.out; simp; omega
                  intro u4 w4 hown4 hg4
                  rw [← HNB.eq] at hown4
                  have hga : wr.grownBy ((wr.drewN nq).alloc (.cells #[.int .u8 (v % 256), .int .u8 (v / 256 % 256), .int .u8 (v / 65536 % 256), .int .u8 (v / 16777216)] 5)) u15.ownBlock := grown_of_below ((below_drewC _ _).alloc (Nat.le_refl _) _) _
                  have hgr := grown_trans hga hg4
                  have hrow : ∀ k, u15.ownBlock = some k → n ≤ k ∧ ∃ cur, wr.heap[k]? = some (.cells cur 5 (0, 0)) := fun k hk => ⟨(HO.out.lt k hk).1, HO.out.typedR k hk⟩
                  have HO4 := hidden hown4
                  have HM4 : Hid (Wd w4 m 84 E) := HM.out.grownC hgr (fun e => by
                    obtain ⟨_, cur, hc⟩ := hrow m e.symm
                    rw [HM.out.heap] at hc
                    simp at hc)
                  have HF4 : Hid (Wd w4 n 84 F) := HFS.out.grownC hgr (fun e => by
                    obtain ⟨_, cur, hc⟩ := hrow n e.symm
                    rw [HFS.out.heap] at hc
                    simp at hc)
                  have HB4 : Hid (Below n w w4) := HB.out.grown hgr (Nat.le_of_lt HFS.out.lt) (fun k e => (hrow k e).1)
                  clear hown4 hg4 hga hgr hrow HO HM HFS HB HOA HBY
                  go_wp2
                  go_roundw
                  case rel => exact ⟨j + 1, by omega, by go_num, HO4.out, HM4.out, HF4.out, HB4.out⟩
                  case measure => simp [intOf]; omega
                · have hj16 : j = 16 := by omega
                  have hge : ¬ (j : Int) < 16 := by omega
                  have hoe := HO.out
                  rw [hj16, HRE.eq] at hoe
                  have HOE := hidden hoe
                  clear hj16 hoe HO
                  go_wp2
                  go_ret2
                  exact ⟨_, rfl, by rw [HN.out]; exact HOE.out, by rw [HN.out]; exact HB.out⟩
end Go.Proofs.YtpocehpejbnemaaDoor
