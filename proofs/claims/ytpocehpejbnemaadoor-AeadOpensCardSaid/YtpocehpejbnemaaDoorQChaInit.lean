/-
  chacha.fit, setWords, initial and Block.
-/
import Derived.Test.YtpocehpejbnemaaDoorQChaArr
import Derived.Test.YtpocehpejbnemaaDoorQZ3
import Derived.Deep.Cut
import Derived.Deep.CutRange
import Derived.Deep.RegionHeld3
import Derived.Laws.CopyOwn
namespace Go.Proofs.YtpocehpejbnemaaDoor
open Go.RowKit
set_option linter.unusedVariables false

theorem fit_any (p q : Option Addr) (n c m d : Nat) (w : World) (hn : n ≤ 9223372036854775807) (hm : m ≤ 9223372036854775807) :
    Calls Tryd.prog 43 #[.slice p n c, .slice q m d] w fun e w' => e = .returned (.bool (decide (n = 32 ∧ m = 12))) ∧ w = w' := by
  by_cases h1 : n = 32
  · by_cases h2 : m = 12
    · subst h1 h2
      go_enter Tryd.func43, Tryd.ntmps43
      go_wp2
      go_ret
      exact ⟨rfl, rfl⟩
    · have e2 : ((m : Int) == 12) = false := by simp; omega
      have e3 : decide (n = 32 ∧ m = 12) = false := by simp [h2]
      rw [e3]
      subst h1
      go_enter Tryd.func43, Tryd.ntmps43
      go_wp2
      go_ret
      exact ⟨rfl, rfl⟩
  · have e1 : ((n : Int) == 32) = false := by simp; omega
    have e3 : decide (n = 32 ∧ m = 12) = false := by simp [h1]
    rw [e3]
    go_enter Tryd.func43, Tryd.ntmps43
    go_wp2
    go_ret
    exact ⟨rfl, rfl⟩
/-- The cells from o on replaced by n words of b. -/
def putW (L b : List Int) (o n : Nat) : List Int := L.take o ++ (wordsLE b n ++ L.drop (o + n))
theorem putW_len (L b : List Int) (o n : Nat) (h : o + n ≤ L.length) : (putW L b o n).length = L.length := by simp [putW, wordsLE_len]; omega
theorem putW_zero (L b : List Int) (o : Nat) : putW L b o 0 = L := by simp [putW, wordsLE]
theorem putW_next (L b : List Int) (o n : Nat) (h : o + n < L.length) : (putW L b o n).set (o + n) (leW b n) = putW L b o (n + 1) := by
  have h1 : (L.take o).length = o := by simp; omega
  unfold putW
  rw [List.set_append_right _ _ (by omega), List.set_append_right _ _ (by rw [wordsLE_len]; omega), h1, wordsLE_len, show o + n - o - n = 0 by omega, List.drop_eq_getElem_cons h, List.set_cons_zero, wordsLE, show o + (n + 1) = o + n + 1 by omega]
  simp
theorem putW_cell (L b : List Int) (o n j : Nat) (h : o + n ≤ j) (hj : j < L.length) : (putW L b o n).getD j 0 = L.getD j 0 := by
  have h1 : (L.take o).length = o := by simp; omega
  unfold putW
  rw [List.getD_eq_getElem?_getD, List.getD_eq_getElem?_getD, List.getElem?_append_right (by omega), List.getElem?_append_right (by rw [wordsLE_len]; omega), h1, wordsLE_len, List.getElem?_drop]
  congr 2
  omega

set_option maxHeartbeats 1600000 in
set_option maxRecDepth 100000 in
theorem setWords_any (g o N c : Nat) (L : List Int) (p : Option Addr) (n d : Nat) (b : List Int) (w : World) (hL : Wd w g 84 L) (ho : o + N ≤ L.length) (hN : N ≤ 8) (h : Byt w p n d b) (hn : n = 4 * N) :
    Calls Tryd.prog 84 #[.slice (some ⟨g, o, none⟩) N c, .slice p n d] w fun e w' => e = .returned (.tuple #[]) ∧ Wd w' g 84 (putW L b o N) ∧ w.grownBy w' (some g) := by
  have hcap := h.cap
  have hbig := h.le
  have HX := hidden h
  have HLL := hidden ho
  obtain ⟨bb, off, HP, HC, hne⟩ : ∃ bb off, Hid (0 < N → p = some ⟨bb, off, none⟩) ∧ Hid (∀ i, i < n → w.cell? ⟨bb, off + i, none⟩ = some (.int .u8 (b.getD i 0))) ∧ (0 < N → ¬ g = bb) := by
    rcases Nat.eq_zero_or_pos N with h0 | h0
    · exact ⟨0, 0, fun h => by omega, fun i hi => by omega, fun h => by omega⟩
    · obtain ⟨bb, off, rfl, hc⟩ := h.at_ (by omega)
      refine ⟨bb, off, fun _ => rfl, hc, fun _ e => ?_⟩
      subst e
      have h1 := hc 0 (by omega)
      rw [cell_of_row w g _ _ _ _ hL.heap] at h1
      simp at h1
  have HR := hidden h.rng
  have HL := hidden hL
  have HN := hidden hn
  clear h ho hL hn
  have hlt0 := HL.out.lt
  go_enter Tryd.func84, Tryd.ntmps84
  go_wp2
  go_loopw [7] (fun i wr => ∃ j : Nat, j ≤ N ∧ i = .int .i64 j ∧ Wd wr g 84 (putW L b o j) ∧ w.grownBy wr (some g)) (fun i _ => N - (intOf i).toNat)
  case atStart => exact ⟨0, by omega, rfl, by rw [putW_zero]; exact HL.out, grown_refl _ _⟩
  case round =>
    obtain ⟨j, hj, rfl, hl, hg⟩ := hrel
    have HWD := hidden hl
    have HG := hidden hg
    clear hl hg
    by_cases hlt : j < N
    · have hnn := HN.out
      have hpe := HP.out (by omega)
      subst hpe
      have hgb : ¬ g = bb := hne (by omega)
      have hgb' : ¬ bb = g := fun e => hgb e.symm
      have cc : ∀ i, i < n → wr.cell? ⟨bb, off + i, none⟩ = some (.int .u8 (b.getD i 0)) := fun i hi => HG.out.cell (HC.out i hi) (by simp; omega)
      have x0 := cc (4 * j) (by omega)
      have x1 := cc (4 * j + 1) (by omega)
      have x2 := cc (4 * j + 2) (by omega)
      have x3 := cc (4 * j + 3) (by omega)
      have r0 := rng_getD HR.out (4 * j)
      have r1 := rng_getD HR.out (4 * j + 1)
      have r2 := rng_getD HR.out (4 * j + 2)
      have r3 := rng_getD HR.out (4 * j + 3)
      have HLE : Is (leW b j) _ := ⟨rfl⟩
      unfold leW at HLE
      have hput := putW_next L b o j (by have := HLL.out; omega)
      have hx := HWD.out.cell (o + j) (by rw [putW_len _ _ _ _ (by have := HLL.out; omega)]; have := HLL.out; omega)
      have hfx := HWD.out.fr (o + j)
      unfold leW at hput
      generalize b.getD (4 * j) 0 = y0 at *
      generalize b.getD (4 * j + 1) 0 = y1 at *
      generalize b.getD (4 * j + 2) 0 = y2 at *
      generalize b.getD (4 * j + 3) 0 = y3 at *
      have HPUT := Is.mk hput
      have b0 : (0 : Int) ≤ (j : Int) := by omega
      have b1 : (j : Int) < (N : Int) := by omega
      have a0 : (0 : Int) ≤ 4 * (j : Int) := by omega
      have a1 : (0 : Int) ≤ 4 * (j : Int) + 1 := by omega
      have a2 : (0 : Int) ≤ 4 * (j : Int) + 2 := by omega
      have a3 : (0 : Int) ≤ 4 * (j : Int) + 3 := by omega
      have c0 : 4 * (j : Int) < (n : Int) := by omega
      have c1 : 4 * (j : Int) + 1 < (n : Int) := by omega
      have c2 : 4 * (j : Int) + 2 < (n : Int) := by omega
      have c3 : 4 * (j : Int) + 3 < (n : Int) := by omega
      have v0 : IntKind.i64.wrap (4 * (j : Int)) = 4 * (j : Int) := wraps_i64 _ (by omega) (by omega)
      have v1 : IntKind.i64.wrap (4 * (j : Int) + 1) = 4 * (j : Int) + 1 := wraps_i64 _ (by omega) (by omega)
      have v2 : IntKind.i64.wrap (4 * (j : Int) + 2) = 4 * (j : Int) + 2 := wraps_i64 _ (by omega) (by omega)
      have v3 : IntKind.i64.wrap (4 * (j : Int) + 3) = 4 * (j : Int) + 3 := wraps_i64 _ (by omega) (by omega)
      have n0 : (4 * (j : Int)).toNat = 4 * j := by omega
      have n1 : (4 * (j : Int) + 1).toNat = 4 * j + 1 := by omega
      have n2 : (4 * (j : Int) + 2).toNat = 4 * j + 2 := by omega
      have n3 : (4 * (j : Int) + 3).toNat = 4 * j + 3 := by omega
      have q0 : IntKind.u32.wrap y0 = y0 := by rw [IntKind.wrap_u32']; omega
      have q1 : IntKind.u32.wrap y1 = y1 := by rw [IntKind.wrap_u32']; omega
      have q2 : IntKind.u32.wrap y2 = y2 := by rw [IntKind.wrap_u32']; omega
      have q3 : IntKind.u32.wrap y3 = y3 := by rw [IntKind.wrap_u32']; omega
      have p1 : IntKind.u32.wrap (y1 * 256) = y1 * 256 := by rw [IntKind.wrap_u32']; omega
      have p2 : IntKind.u32.wrap (y2 * 65536) = y2 * 65536 := by rw [IntKind.wrap_u32']; omega
      have p3 : IntKind.u32.wrap (y3 * 16777216) = y3 * 16777216 := by rw [IntKind.wrap_u32']; omega
      clear cc HLE hput hnn
      go_upto_region 3 with fail
      go_region_held3 (fun w' => w'.cell? ⟨bb, off + 4 * j, none⟩ = some (.int .u8 y0) ∧ w'.cell? ⟨bb, off + (4 * j + 1), none⟩ = some (.int .u8 y1) ∧ w'.cell? ⟨bb, off + (4 * j + 2), none⟩ = some (.int .u8 y2) ∧ w'.cell? ⟨bb, off + (4 * j + 3), none⟩ = some (.int .u8 y3)) (go_keep) (first | fail)
      all_goals
        go_wp2
        go_roundw
        case rel => exact ⟨j + 1, by omega, by go_num, by rw [← HPUT.eq]; exact (HWD.out.set (o + j) _).drew, grown_trans (grown_trans HG.out (grown_set _ _ _ _)) (grown_drewN _ 1 _)⟩
        case measure => simp [intOf]; omega
    · obtain rfl : j = N := by omega
      go_wp2
      go_end0
      exact ⟨rfl, HWD.out, HG.out⟩

theorem initC_of (key : List Int) (c : Int) (nonce : List Int) : putW (putW ([0x61707865, 0x3320646e, 0x79622d32, 0x6b206574, 0, 0, 0, 0, 0, 0, 0, 0, c, 0, 0, 0]) key 4 8) nonce 13 3 = initC key c nonce := by
  have h1 := wordsLE_len key 8
  have h2 := wordsLE_len nonce 3
  obtain ⟨A, hA⟩ : ∃ A, wordsLE key 8 = A := ⟨_, rfl⟩
  obtain ⟨B, hB⟩ : ∃ B, wordsLE nonce 3 = B := ⟨_, rfl⟩
  unfold putW initC
  rw [hA] at h1 ⊢
  rw [hB] at h2 ⊢
  match A, h1 with
  | [a0, a1, a2, a3, a4, a5, a6, a7], _ => simp

set_option maxHeartbeats 1600000 in
set_option maxRecDepth 100000 in
theorem initial_any (p q : Option Addr) (c d : Nat) (key nonce : List Int) (ctr : Int) (w : World) (h : Byt w p 32 c key) (h' : Byt w q 12 d nonce) :
    Calls Tryd.prog 44 #[.slice p 32 c, .int .u32 ctr, .slice q 12 d] w fun e w' => e = .returned (.agg ((initC key ctr nonce).map (Value.int .u32)).toArray) ∧ Below w.heap.size w w' := by
  have HX := hidden (fun W (hW : Below w.heap.size w W) => h.below hW)
  have HY := hidden (fun W (hW : Below w.heap.size w W) => h'.below hW)
  obtain ⟨R, hR⟩ : ∃ R, initC key ctr nonce = R := ⟨_, rfl⟩
  have hRl : R.length = 16 := by rw [← hR, initC_len]
  obtain ⟨L0, hL0⟩ : ∃ L0 : List Int, [0x61707865, 0x3320646e, 0x79622d32, 0x6b206574, 0, 0, 0, 0, 0, 0, 0, 0, ctr, 0, 0, 0] = L0 := ⟨_, rfl⟩
  have hof := initC_of key ctr nonce
  rw [hL0, hR] at hof
  have hl0 : L0.length = 16 := by rw [← hL0]; rfl
  rw [hR]
  have HOF := Is.mk hof
  have HL0 := Is.mk hL0
  have HLL := Is.mk hl0
  have hiR : (Tryd.prog.info? 84).map (·.size) = some ((R.map (Value.int .u32)).toArray).size := by rw [infoS16]; simp [hRl]
  have hzr : ((List.replicate 16 (0 : Int)).map (Value.int .u32)).toArray.size = ((R.map (Value.int .u32)).toArray).size := by simp [hRl]
  have HIR := hidden hiR
  have HZR := hidden hzr
  have HONE := hidden (one32 R)
  clear h h' hR hRl hL0 hof hl0 hiR hzr
  go_enter Tryd.func44, Tryd.ntmps44
  go_upto_region 2 with fail
  generalize hw1 : (w.alloc (.cells _ 84)).alloc (.cells _ 84) = w1
  have hr : Wd w1 w.heap.size 84 (List.replicate 16 0) := by
    rw [← hw1]
    exact (Wd.new w _ (List.replicate 16 0) _ rfl).alloc _
  have hd : Wd w1 (w.heap.size + 1) 84 L0 := by
    rw [← hw1, ← HL0.eq]
    have := Wd.new (w.alloc (.cells ((List.replicate 16 0).map (Value.int .u32)).toArray 84)) 84 [1634760805, 857760878, 2036477234, 1797285236, 0, 0, 0, 0, 0, 0, 0, 0, ctr, 0, 0, 0] _ rfl
    rw [World.size_alloc] at this
    exact this
  have hb : Below w.heap.size w w1 := by
    rw [← hw1]
    exact ((Below.refl _ w).alloc (Nat.le_refl _) _).alloc (by simp) _
  clear hw1
  have HC1 := hidden (setWords_any (w.heap.size + 1) 4 8 12 L0 p 32 c key w1 hd (by rw [HLL.eq]; omega) (by omega) (HX.out w1 hb) (by omega))
  have hl1 : (putW L0 key 4 8).length = 16 := by rw [putW_len _ _ _ _ (by rw [HLL.eq]; omega), HLL.eq]
  have HL1 := Is.mk hl1
  have HR := hidden hr
  have HB := hidden hb
  have hn1 : ¬ w.heap.size = w.heap.size + 1 := by omega
  clear hr hd hb hl1
  generalize putW L0 key 4 8 = L1 at *
  go_upto_region 3 with (first
    | (go_at_call 84; (with_reducible refine (HC1.out).mono ?_); rintro e w2 ⟨rfl, hd2, hg2⟩)
    | fail)
  have HD2 := hidden hd2
  have HR2 : Hid (Wd w2 w.heap.size 84 (List.replicate 16 0)) := HR.out.grownC hg2 (by simp)
  have HB2 : Hid (Below w.heap.size w w2) := HB.out.grown hg2 HB.out.size (fun k e => by cases e; omega)
  have HC2 := hidden (setWords_any (w.heap.size + 1) 13 3 3 L1 q 12 d nonce w2 hd2 (by rw [HL1.eq]; omega) (by omega) (HY.out w2 HB2.out) (by omega))
  clear hd2 hg2 HR HB HC1
  go_upto_region 4 with (first
    | (go_at_call 84; (with_reducible refine (HC2.out).mono ?_); rintro e w3 ⟨rfl, hd3, hg3⟩)
    | fail)
  rw [HOF.eq] at hd3
  have HD3 := hidden hd3
  have HR3 : Hid (Wd w3 w.heap.size 84 (List.replicate 16 0)) := HR2.out.grownC hg3 (by simp)
  have HB3 : Hid (Below w.heap.size w w3) := HB2.out.grown hg3 HB2.out.size (fun k e => by cases e; omega)
  have HR4 := hidden (HR3.out.row R)
  have HB4 := hidden (below_setRow HB3.out (Nat.le_refl _) (R.map (Value.int .u32)).toArray)
  clear hd3 hg3 HC2 HR2 HB2
  go_wp2_with (first
    | (refine wpList_load_row rfl 84 _ rfl (w.heap.size + 1) rfl 84 _ (0, 0) _ HD3.out.heap Tryd.underlying84 rfl HIR.out ?_)
    | (refine wpList_store_row rfl 84 _ _ rfl w.heap.size (R.map (Value.int .u32)).toArray rfl rfl 84 _ HR3.out.heap HIR.out HZR.out HONE.out ?_)
    | fail)
  refine bodyPost_ret (results_cell_row rfl _ _ w.heap.size 84 _ _ _ rfl HR4.out.heap Tryd.underlying84 rfl HIR.out) rfl ?_
  exact ⟨rfl, HB4.out⟩
end Go.Proofs.YtpocehpejbnemaaDoor
