/-
  The law PrfNests, walked: it returns true for every input, and only adds memory of its own.
-/
import Derived.Test.YtnnbfhjbaagnkaaDoorPrf09
import Derived.Test.YtnnbfhjbaagnkaaDoorPrfPlus
import Derived.Test.YtnnbfhjbaagnkaaDoorPrfMake
import Derived.Test.YtnnbfhjbaagnkaaDoorWEqual
import Derived.Deep.Cut
import Derived.Deep.CutRange
import Derived.Deep.CutBlock
import Derived.Deep.RegionLaw
namespace Go.Proofs.YtnnbfhjbaagnkaaDoor
open Go.RowKit
set_option linter.unusedVariables false

theorem mask_getD (L A : List Int) (j : Nat) (hA : A.length = L.length) (hj : j < L.length) : (A.take j ++ L.drop j).getD j 0 = L.getD j 0 := by
  rw [List.getD_eq_getElem?_getD, List.getElem?_append_right (by rw [List.length_take]; omega), List.length_take, hA, Nat.min_eq_left (by omega), Nat.sub_self, List.getElem?_drop, List.getD_eq_getElem?_getD]
  rfl
theorem mask_set (L A : List Int) (j : Nat) (hA : A.length = L.length) (hj : j < L.length) : (A.take j ++ L.drop j).set j (A.getD j 0) = A.take (j + 1) ++ L.drop (j + 1) := by
  rw [List.set_append_right _ _ (by rw [List.length_take]; omega), List.length_take, hA, Nat.min_eq_left (by omega), Nat.sub_self, List.drop_eq_getElem_cons hj, List.set_cons_zero, take_getD A j (by omega), List.append_assoc]
  rfl
theorem maskL_getD (m : Int) (L : List Int) (j : Nat) (hj : j < L.length) : (maskL m L).getD j 0 = bits .xor .u8 (L.getD j 0) m := by
  rw [maskL, List.getD_eq_getElem?_getD, List.getElem?_map, List.getElem?_eq_getElem hj, List.getD_eq_getElem?_getD, List.getElem?_eq_getElem hj]
  rfl
theorem Own.grownOff {w w' : World} {base : Nat} {e : TypeId} {v : Value} {xs : List Int} {row : Option Nat} (h : Own w base e v xs) (hg : w.grownBy w' row) (hne : v.ownBlock = none ∨ v.ownBlock ≠ row) : Own w' base e v xs :=
  World.ownsRow.kept h hg hne

theorem set_grown (w : World) (g j : Nat) (v : Value) : w.grownBy (w.setCell ⟨g, j, none⟩ v) (some g) :=
  ⟨rfl, rfl, rfl, by simp [World.setCell], fun i hi hne => Below.heap_setCell _ _ _ _ (by simp at hne; exact hne)⟩

set_option maxHeartbeats 3200000 in
set_option maxRecDepth 100000 in
theorem prfNests_walk (p0 : Option Addr) (n0 c0 : Nat) (xs0 : List Int) (p1 : Option Addr) (n1 c1 : Nat) (xs1 : List Int) (w : World) (h0 : Byt w p0 n0 c0 xs0) (r0 : c0 ≤ 140737488351232) (h1 : Byt w p1 n1 c1 xs1) (r1 : c1 ≤ 140737488351232) (hK : KAt w) :
    Calls Tryd.prog 6 #[.slice p0 n0 c0, .slice p1 n1 c1] w fun e w' => e = .returned (.bool true) ∧ Below w.heap.size w w' := by
  have HA := hidden (awake09_any w hK)
  have H0 := hidden (fun W (hW : Below w.heap.size w W) => h0.below hW)
  have H1 := hidden (fun W (hW : Below w.heap.size w W) => h1.below hW)
  have HK := hidden (fun W (hW : Below w.heap.size w W) => hK.below hW hK.lt)
  have hc0 := h0.cap
  have hc1 := h1.cap
  have HL0 := Is.mk h0.len
  have HL1 := Is.mk h1.len
  obtain ⟨i0, hi, hz0, hz1, hz2⟩ := info_parts Tryd.infoByte
  clear h0 h1 hK
  go_enter Tryd.func6, Tryd.ntmps6
  by_cases hs : n0 ≤ 64 ∧ n1 ≤ 300
  rotate_left
  · by_cases ha : (64 : Int) < n0
    · go_wp2_with (first
        | (go_at_call 7; (with_reducible refine (HA.out).mono ?_); rintro e w1 ⟨rfl, hb⟩; have HB1 := hidden hb; clear hb)
        | fail)
      go_ret
      exact ⟨rfl, HB1.out⟩
    · have hb : (300 : Int) < n1 := by omega
      go_wp2_with (first
        | (go_at_call 7; (with_reducible refine (HA.out).mono ?_); rintro e w1 ⟨rfl, hb⟩; have HB1 := hidden hb; clear hb)
        | fail)
      go_ret
      exact ⟨rfl, HB1.out⟩
  obtain ⟨s0, s1⟩ := hs
  have e0 : ¬ (64 : Int) < n0 := by omega
  have e1 : ¬ (300 : Int) < n1 := by omega
  go_upto_region 5 with (first
    | (go_at_call 7; (with_reducible refine (HA.out).mono ?_); rintro e w1 ⟨rfl, hb⟩; have HB1 := hidden hb; clear hb)
    | fail)
  go_cut [5, 6] from 23 to 24 (fun o i wx => ∃ g1 g2, o = .slice (some ⟨g1, 0, none⟩) 64 64 ∧ i = .slice (some ⟨g2, 0, none⟩) 64 64 ∧ g1 ≠ g2 ∧ Own wx w.heap.size 5 (.slice (some ⟨g1, 0, none⟩) 64 64) (List.replicate 64 0) ∧ Own wx w.heap.size 5 (.slice (some ⟨g2, 0, none⟩) 64 64) (List.replicate 64 0) ∧ Below w.heap.size w wx)
  case first =>
    obtain ⟨Z, HZ, hmk⟩ := make_eq (P := Tryd.prog) 22 5 i0 Tryd.underlying22 hi hz0 hz1 hz2 64 (by omega)
    have hmk' : ∀ w : World, (Instr.makeSlice 22 (.int .i64 64) (.int .i64 64)).run Tryd.prog w = .ok (.slice (some ⟨w.heap.size, 0, none⟩) 64 64) (w.alloc (.cells Z 5)) := hmk
    clear hmk
    go_region
    all_goals
      go_wp2
      go_meet
      case rel =>
        have hm := made_two w1 w.heap.size 5 Z 64 HZ.out HB1.out.size (by omega)
        first
          | exact ⟨_, _, rfl, rfl, by omega, hm.1, hm.2, ((HB1.out.alloc HB1.out.size _).alloc (by have := HB1.out.size; simp; omega) _).drew⟩
          | exact ⟨_, _, rfl, rfl, by omega, hm.2, hm.1, ((HB1.out.alloc HB1.out.size _).alloc (by have := HB1.out.size; simp; omega) _).drew⟩
  case rest =>
    obtain ⟨g1, g2, rfl, rfl, hne, ho1, ho2, hb⟩ := hcut
    have hne' : ¬ g2 = g1 := fun e => hne e.symm
    have HO1 := hidden ho1
    have HO2 := hidden ho2
    have HB := hidden hb
    have HP : Hid (xs0 ++ (List.replicate 64 (0 : Int)).drop n0 = padK xs0) := by
      have : keyS xs0 = xs0 := by unfold keyS; rw [if_neg (by rw [HL0.eq]; omega)]
      show _ = _
      rw [padK, this, List.drop_replicate, HL0.eq]
    have HY0 := hidden (H0.out wc hb)
    obtain ⟨L, hL⟩ : ∃ L, padK xs0 = L := ⟨_, rfl⟩
    have HLL := hidden (padK_len xs0)
    have HE : Hid (shaS (maskL 92 L ++ shaS (maskL 54 L ++ xs1)) = hmacS xs0 xs1) := by show _ = _; rw [← hL]; rfl
    rw [hL] at HP HLL
    clear hL ho1 ho2 hb HA HB1
    go_upto_region 7 with (first
      | (refine wpList_copy_into rfl (.tmp 25) (.tmp 26) 22 22 rfl w.heap.size 5 Tryd.underlying22 Tryd.sizeByte g1 64 64 (List.replicate 64 0) rfl (by simp) HO1.out _ _ _ _ rfl HY0.out s0 L HP.out ?_)
      | fail)
    intro w2 HO3 HG3
    have HO4 := hidden (HO2.out.grownOff HG3.out (Or.inr (by simp [Value.ownBlock]; omega)))
    have HB2 := hidden (HB.out.grown HG3.out HB.out.size (fun j e => (HO1.out.lt j e).1))
    have HY2 := hidden (H0.out w2 HB2.out)
    clear HG3 HO1 HO2 HY0 HB
    go_upto_region 8 with (first
      | (refine wpList_copy_into rfl (.tmp 28) (.tmp 29) 22 22 rfl w.heap.size 5 Tryd.underlying22 Tryd.sizeByte g2 64 64 (List.replicate 64 0) rfl (by simp) HO4.out _ _ _ _ rfl HY2.out s0 L HP.out ?_)
      | fail)
    intro w3 HO5 HG3
    have HO6 := hidden (HO3.out.grownOff HG3.out (Or.inr (by simp [Value.ownBlock]; omega)))
    have HB3 := hidden (HB2.out.grown HG3.out HB2.out.size (fun j e => (HO4.out.lt j e).1))
    have HC0 : Hid ((maskL 92 L).take 0 ++ L.drop 0 = L) := rfl
    have HA0 : Hid ((maskL 54 L).take 0 ++ L.drop 0 = L) := rfl
    have HCL : Hid ((maskL 92 L).length = L.length) := maskL_len _ _
    have HAL : Hid ((maskL 54 L).length = L.length) := maskL_len _ _
    have HCG := hidden (fun j => maskL_getD 92 L j)
    have HAG := hidden (fun j => maskL_getD 54 L j)
    have HCR := hidden (maskL_rng 92 L)
    have HAR := hidden (maskL_rng 54 L)
    generalize maskL 92 L = C at HC0 HCL HCG HCR HE
    generalize maskL 54 L = A at HA0 HAL HAG HAR HE
    clear HG3 HO3 HO4 HB2 HY2 HP
    go_wp2_with fail
    go_loopw [7, 33] (fun _ i wr => ∃ j : Nat, j ≤ 64 ∧ i = .int .i64 j ∧ Own wr w.heap.size 5 (.slice (some ⟨g1, 0, none⟩) 64 64) (C.take j ++ L.drop j) ∧ Own wr w.heap.size 5 (.slice (some ⟨g2, 0, none⟩) 64 64) (A.take j ++ L.drop j) ∧ Below w.heap.size w wr) (fun _ i _ => 64 - (intOf i).toNat)
    case atStart => exact ⟨0, by omega, rfl, by rw [HC0.out]; exact HO6.out, by rw [HA0.out]; exact HO5.out, HB3.out⟩
    case round =>
      obtain ⟨j, hj, rfl, ho1, ho2, hb⟩ := hrel
      have HO1 := hidden ho1
      have HO2 := hidden ho2
      have HB := hidden hb
      clear HO5 HO6 HB3
      by_cases hlt : j < 64
      · have hl1 : (C.take j ++ L.drop j).length = 64 := by rw [List.length_append, List.length_take, List.length_drop, HCL.out, HLL.out]; omega
        have hl2 : (A.take j ++ L.drop j).length = 64 := by rw [List.length_append, List.length_take, List.length_drop, HAL.out, HLL.out]; omega
        obtain ⟨x1, y1, hv1, -, hg1, hc1, hf1⟩ := ho1.at_ hl1 (by omega)
        obtain ⟨x2, y2, hv2, -, hg2, hc2, hf2⟩ := ho2.at_ hl2 (by omega)
        simp only [Value.slice.injEq, Option.some.injEq, Addr.mk.injEq, and_true, true_and] at hv1 hv2
        obtain ⟨rfl, rfl⟩ := hv1
        obtain ⟨rfl, rfl⟩ := hv2
        have hw1 : w.heap.size ≤ g1 := (ho1.lt g1 rfl).1
        have hw2 : w.heap.size ≤ g2 := (ho2.lt g2 rfl).1
        have a1 := hc1 j hlt
        have a2 := hc2 j hlt
        have b1 := hf1 j
        have b2 := hf2 j
        rw [mask_getD L C j HCL.out (by rw [HLL.out]; exact hlt)] at a1
        rw [mask_getD L A j HAL.out (by rw [HLL.out]; exact hlt)] at a2
        have HS1 := hidden (mask_set L C j HCL.out (by rw [HLL.out]; exact hlt))
        have HS2 := hidden (mask_set L A j HAL.out (by rw [HLL.out]; exact hlt))
        rw [HCG.out j (by rw [HLL.out]; exact hlt)] at HS1
        rw [HAG.out j (by rw [HLL.out]; exact hlt)] at HS2
        generalize L.getD j 0 = x at a1 a2 HS1 HS2
        have HL1 := hidden hl1
        have HL2 := hidden hl2
        clear hc1 hc2 hf1 hf2 ho1 ho2 hb hl1 hl2
        go_wp2
        go_roundw
        case rel =>
          refine ⟨j + 1, by omega, by go_num, ?_, ?_, (HB.out.setCell (p := ⟨g1, j, none⟩) hw1 _).setCell (p := ⟨g2, j, none⟩) hw2 _⟩
          · have := (HO1.out.set HL1.out j (bits .xor .u8 x 92)).grownOff (set_grown _ g2 j (.int .u8 (bits .xor .u8 x 54))) (Or.inr (by simp [Value.ownBlock]; omega))
            rw [HS1.out] at this
            exact this
          · have := (HO2.out.grownOff (set_grown _ g1 j (.int .u8 (bits .xor .u8 x 92))) (Or.inr (by simp [Value.ownBlock]; omega))).set HL2.out j (bits .xor .u8 x 54)
            rw [HS2.out] at this
            exact this
        case measure => simp [intOf]; omega
      · obtain rfl : j = 64 := by omega
        have eC : C.take 64 ++ L.drop 64 = C := by rw [List.take_of_length_le (by rw [HCL.out, HLL.out]; exact Nat.le_refl _), List.drop_eq_nil_of_le (by rw [HLL.out]; exact Nat.le_refl _), List.append_nil]
        have eA : A.take 64 ++ L.drop 64 = A := by rw [List.take_of_length_le (by rw [HAL.out, HLL.out]; exact Nat.le_refl _), List.drop_eq_nil_of_le (by rw [HLL.out]; exact Nat.le_refl _), List.append_nil]
        rw [eC] at ho1
        rw [eA] at ho2
        have HOC := hidden ho1
        have HOA := hidden ho2
        have hCl : C.length = 64 := by rw [HCL.out, HLL.out]
        have hAl : A.length = 64 := by rw [HAL.out, HLL.out]
        have HY1 := hidden (H1.out wr hb)
        obtain ⟨X, hX⟩ : ∃ X, A ++ xs1 = X := ⟨_, rfl⟩
        have HXL : Hid (X.length = 64 + n1) := by show _ = _; rw [← hX, List.length_append, hAl, HL1.eq]
        have HXR : Hid (∀ x ∈ X, 0 ≤ x ∧ x ≤ 255) := by rw [← hX]; exact rng_append HAR.out (H1.out w (Below.refl _ _)).rng
        have HDL : Is (shaS X).length 32 := ⟨shaS_len X⟩
        have HDR : Hid (∀ x ∈ shaS X, 0 ≤ x ∧ x ≤ 255) := shaS_rng X
        rw [hX] at HE
        have HXE := hidden hX
        have HS1 : Hid (∀ W q1 d1, Below w.heap.size w W → Byt W q1 (64 + n1) d1 X → Calls Tryd.prog 18 #[.slice q1 (64 + n1) d1] W (BytesPut W (shaS X))) := fun W q1 d1 hW hB => sum_any q1 (64 + n1) d1 _ W hB (by omega) (HK.out W hW)
        generalize shaS X = D at HS1 HDL HDR HE
        obtain ⟨Y, hY⟩ : ∃ Y, C ++ D = Y := ⟨_, rfl⟩
        have HYL : Hid (Y.length = 96) := by show _ = _; rw [← hY, List.length_append, hCl, HDL.eq]
        have HYR : Hid (∀ x ∈ Y, 0 ≤ x ∧ x ≤ 255) := by rw [← hY]; exact rng_append HCR.out HDR.out
        rw [hY] at HE
        have HYE := hidden hY
        obtain ⟨R, hR⟩ : ∃ R, hmacS xs0 xs1 = R := ⟨_, rfl⟩
        rw [hR] at HE
        have HRL : Is R.length 32 := ⟨by rw [← hR]; exact hmacS_len _ _⟩
        have HRR : Hid (∀ x ∈ R, 0 ≤ x ∧ x ≤ 255) := by rw [← hR]; exact hmacS_rng _ _
        have HS2 : Hid (∀ W q1 d1, Below w.heap.size w W → Byt W q1 96 d1 Y → Calls Tryd.prog 18 #[.slice q1 96 d1] W (BytesPut W R)) := fun W q1 d1 hW hB => by
          have := sum_any q1 96 d1 _ W hB (by omega) (HK.out W hW)
          rw [HE.out] at this
          exact this
        have HR := hidden hR
        have hr1 : A.length + n1 ≤ 140737488355328 := by omega
        have hr2 : C.length + 32 ≤ 140737488355328 := by omega
        clear eC eA ho1 ho2 hb hCl hAl hX hY hR HO1 HO2 HC0 HA0 HCG HAG HE
        go_wp2_with (first
          | (at_builtin; refine wpList_append_byt _ rfl (.tmp 50) (.tmp 51) 22 rfl w.heap.size 5 i0 (.int .u8 0) Tryd.underlying22 hi hz0 hz1 hz2 rfl _ _ rfl HOA.out _ _ _ _ _ rfl HY1.out rfl hr1 HB.out.size ?_)
          | fail)
        intro u4 w4 hown4 hg4
        rw [HXE.out] at hown4
        obtain ⟨q4, d4, rfl, hbyt4⟩ := hown4.bytN rfl HXL.out HXR.out
        have HB4 := hidden (HB.out.grown hg4 HB.out.size (fun i hi => (HOA.out.lt i hi).1))
        have H4 := hidden hbyt4
        have HC4 := hidden (HOC.out.grownOff hg4 (Or.inr (by simp [Value.ownBlock]; omega)))
        clear hown4 hg4 hbyt4 HOA HOC HB HY1
        go_wp2_with (first
          | (go_at_call 18; (with_reducible refine (HS1.out w4 _ _ HB4.out H4.out).mono ?_); rintro e w5 ⟨v5, rfl, hown5, hbel5⟩; obtain ⟨q5, d5, rfl, hbyt5⟩ := hown5.bytN rfl HDL.eq HDR.out; have HB5 := hidden (HB4.out.trans (hbel5.mono HB4.out.size)); have H5 := hidden hbyt5; have HC5 := hidden (HC4.out.below hbel5); clear hown5 hbel5 hbyt5)
          | (at_builtin; refine wpList_append_byt _ rfl (.tmp 49) (.tmp 53) 22 rfl w.heap.size 5 i0 (.int .u8 0) Tryd.underlying22 hi hz0 hz1 hz2 rfl _ _ rfl HC5.out _ _ _ _ _ rfl H5.out rfl hr2 HB5.out.size ?_)
          | fail)
        intro u6 w6 hown6 hg6
        rw [HYE.out] at hown6
        obtain ⟨q6, d6, rfl, hbyt6⟩ := hown6.bytN rfl HYL.out HYR.out
        have HB6 := hidden (HB5.out.grown hg6 HB5.out.size (fun i hi => (HC5.out.lt i hi).1))
        have H6 := hidden hbyt6
        clear hown6 hg6 hbyt6 HC4 HC5 H4 H5 HB4 HB5
        go_upto_region 15 with (first
          | (go_at_call 18; (with_reducible refine (HS2.out w6 _ _ HB6.out H6.out).mono ?_); rintro e w7 ⟨v7, rfl, hown7, hbel7⟩; obtain ⟨q7, d7, rfl, hbyt7⟩ := hown7.bytN rfl HRL.eq HRR.out; have HB7 := hidden (HB6.out.trans (hbel7.mono HB6.out.size)); have H7 := hidden hbyt7; clear hown7 hbel7 hbyt7)
          | fail)
        clear H6 HB6 HS1 HS2 HDL HDR HXE HYE HXL HXR HYL HYR hr1 hr2
        obtain ⟨X1, hX1⟩ : ∃ X1, xs1 ++ [1] = X1 := ⟨_, rfl⟩
        have HX1L : Hid (X1.length = n1 + 1) := by show _ = _; rw [← hX1, List.length_append, HL1.eq]; rfl
        have HX1R : Hid (∀ x ∈ X1, 0 ≤ x ∧ x ≤ 255) := by rw [← hX1]; exact rng_append (H1.out w (Below.refl _ _)).rng (by decide)
        obtain ⟨T1, hT1⟩ : ∃ T1, hmacS xs0 X1 = T1 := ⟨_, rfl⟩
        have HT1L : Is T1.length 32 := ⟨by rw [← hT1]; exact hmacS_len _ _⟩
        have HT1R : Hid (∀ x ∈ T1, 0 ≤ x ∧ x ≤ 255) := by rw [← hT1]; exact hmacS_rng _ _
        have HM1 : Hid (∀ W q1 d1, Below w.heap.size w W → Byt W q1 (n1 + 1) d1 X1 → Calls Tryd.prog 9 #[.slice p0 n0 c0, .slice q1 (n1 + 1) d1] W fun e w' => ∃ v, e = .returned v ∧ Own w' W.heap.size 5 v T1 ∧ Below W.heap.size W w') := fun W q1 d1 hW hB => by
          have := hmac_any p0 q1 n0 c0 (n1 + 1) d1 xs0 X1 W (H0.out W hW) (by omega) hB (by omega) (HK.out W hW)
          rw [hT1] at this
          exact this
        obtain ⟨Y1, hY1⟩ : ∃ Y1, T1 ++ xs1 = Y1 := ⟨_, rfl⟩
        obtain ⟨X2, hX2⟩ : ∃ X2, Y1 ++ [2] = X2 := ⟨_, rfl⟩
        have hY1L : Y1.length = 32 + n1 := by rw [← hY1, List.length_append, HL1.eq, HT1L.eq]
        have HX2L : Hid (X2.length = 33 + n1) := by show _ = _; rw [← hX2, List.length_append, hY1L]; simp; omega
        have HX2R : Hid (∀ x ∈ X2, 0 ≤ x ∧ x ≤ 255) := by rw [← hX2, ← hY1]; exact rng_append (rng_append HT1R.out (H1.out w (Below.refl _ _)).rng) (by decide)
        obtain ⟨T2, hT2⟩ : ∃ T2, hmacS xs0 X2 = T2 := ⟨_, rfl⟩
        have HT2L : Is T2.length 32 := ⟨by rw [← hT2]; exact hmacS_len _ _⟩
        have HT2R : Hid (∀ x ∈ T2, 0 ≤ x ∧ x ≤ 255) := by rw [← hT2]; exact hmacS_rng _ _
        have HM2 : Hid (∀ W q1 d1, Below w.heap.size w W → Byt W q1 (33 + n1) d1 X2 → Calls Tryd.prog 9 #[.slice p0 n0 c0, .slice q1 (33 + n1) d1] W fun e w' => ∃ v, e = .returned v ∧ Own w' W.heap.size 5 v T2 ∧ Below W.heap.size W w') := fun W q1 d1 hW hB => by
          have := hmac_any p0 q1 n0 c0 (33 + n1) d1 xs0 X2 W (H0.out W hW) (by omega) hB (by omega) (HK.out W hW)
          rw [hT2] at this
          exact this
        have HMR : Hid (∀ W, Below w.heap.size w W → Calls Tryd.prog 9 #[.slice p0 n0 c0, .slice p1 n1 c1] W fun e w' => ∃ v, e = .returned v ∧ Own w' W.heap.size 5 v R ∧ Below W.heap.size W w') := fun W hW => by
          have := hmac_any p0 p1 n0 c0 n1 c1 xs0 xs1 W (H0.out W hW) (by omega) (H1.out W hW) (by omega) (HK.out W hW)
          rw [HR.out] at this
          exact this
        obtain ⟨P, hP⟩ : ∃ P, T1 ++ T2 = P := ⟨_, rfl⟩
        have hPS : plusS xs0 xs1 64 = P := by
          rw [← hP, ← hT1, ← hT2, ← hX2, ← hY1, ← hT1, ← hX1]
          have h1 : plusT xs0 xs1 1 = hmacS xs0 (xs1 ++ [1]) := rfl
          have h2 : plusT xs0 xs1 2 = hmacS xs0 (hmacS xs0 (xs1 ++ [1]) ++ (xs1 ++ [2])) := rfl
          rw [← plusS_of xs0 xs1 2 64 (by omega), List.take_of_length_le (by rw [plusO_len]; omega)]
          show ([] ++ plusT xs0 xs1 1) ++ plusT xs0 xs1 2 = _
          rw [h1, h2, List.nil_append, List.append_assoc (hmacS xs0 (xs1 ++ [1]))]
        have HPL : Hid (P.length = 64) := by show _ = _; rw [← hP, List.length_append, HT1L.eq, HT2L.eq]
        have HPR : Hid (∀ x ∈ P, 0 ≤ x ∧ x ≤ 255) := by rw [← hP]; exact rng_append HT1R.out HT2R.out
        have HPLUS : Hid (∀ W, Below w.heap.size w W → Calls Tryd.prog 12 #[.slice p0 n0 c0, .slice p1 n1 c1, .int .i64 64] W fun e w' => ∃ p' c', e = .returned (.tuple #[.slice p' 64 c', .int .i64 0]) ∧ Byt w' p' 64 c' P ∧ Below W.heap.size W w') := fun W hW => by
          have := plus_yes p0 p1 n0 c0 n1 c1 xs0 xs1 64 (by omega) W (H0.out W hW) (by omega) (H1.out W hW) (by omega) (HK.out W hW)
          rw [hPS] at this
          exact this
        have HEQ : Hid (∀ W q1 q2 n d1 d2 (E : List Int), Byt W q1 n d1 E → Byt W q2 n d2 E → Calls Tryd.prog 17 #[.slice q1 n d1, .slice q2 n d2] W fun e w' => e = .returned (.bool true) ∧ W = w') := fun W q1 q2 n d1 d2 E h1 h2 => by
          have := equal_any q1 q2 n d1 n d2 E E W h1 h2
          rwa [show decide (E = E) = true from decide_eq_true rfl] at this
        have HX1E := hidden hX1
        have HY1E := hidden hY1
        have HX2E := hidden hX2
        have HPE := hidden hP
        have HY1S := hidden hY1L
        have hr1 : xs1.length + 1 ≤ 140737488355328 := by rw [HL1.eq]; omega
        have hr2 : Y1.length + 1 ≤ 140737488355328 := by omega
        have hr3 : T1.length + n1 ≤ 140737488355328 := by rw [HT1L.eq]; omega
        have hr4 : T1.length + 32 ≤ 140737488355328 := by rw [HT1L.eq]; omega
        have HY7 := hidden (H1.out w7 HB7.out)
        clear hX1 hT1 hY1 hX2 hY1L hT2 hP hPS HR
        go_wp2_with (first
          | (at_builtin; refine wpList_append_byt _ rfl (.const (.slice none 0 0)) (.tmp 57) 22 rfl w7.heap.size 5 i0 (.int .u8 0) Tryd.underlying22 hi hz0 hz1 hz2 rfl _ _ rfl (Own.nil _ w7.heap.size 5) _ _ _ _ _ rfl HY7.out rfl ?b1 (Nat.le_refl _) ?_; case b1 => (simp; omega))
          | fail)
        intro u8 w8 hown8 hg8
        have HB8 := hidden ((Below.refl w7.heap.size w7).grown hg8 (Nat.le_refl _) (nob _))
        have HO8 := hidden hown8
        clear hown8 hg8
        go_wp2_with (first
          | (at_builtin; refine wpList_append_byt _ rfl (.tmp 58) (.tmp 59) 22 rfl w7.heap.size 5 i0 (.int .u8 0) Tryd.underlying22 hi hz0 hz1 hz2 rfl _ _ rfl (HO8.out.alloc _) _ _ _ _ _ rfl (one_byte _ _ 1 ?c0 ?c1) rfl ?c2 ?c3 ?_)
          | fail)
        case c0 => omega
        case c1 => rw [World.cell?_alloc_at _ _ _ _ rfl]; rfl
        case c2 => simpa using hr1
        case c3 => have := HB8.out.size; simp; omega
        intro u9 w9 hown9 hg9
        have HB9 := hidden ((HB8.out.alloc HB8.out.size _).grown hg9 (by have := HB8.out.size; simp; omega) (fun k hk => (HO8.out.lt k hk).1))
        rw [HX1E.out] at hown9
        obtain ⟨q9, d9, rfl, hbyt9⟩ := hown9.bytN rfl HX1L.out HX1R.out
        have H9 := hidden hbyt9
        have HBW9 := hidden (HB7.out.trans (HB9.out.mono HB7.out.size))
        have H79 := hidden (H7.out.below HB9.out)
        clear hown9 hg9 hbyt9 HO8 HB8 H7 HY7
        go_upto_region 16 with (first
          | (go_at_call 9; (with_reducible refine (HM1.out w9 _ _ HBW9.out H9.out).mono ?_); rintro e w10 ⟨v10, rfl, hown10, hbel10⟩; obtain ⟨q10, d10, rfl, hbyt10⟩ := hown10.bytN rfl HT1L.eq HT1R.out; have HB10 := hidden (HBW9.out.trans (hbel10.mono HBW9.out.size)); have H10 := hidden hbyt10; have H710 := hidden (H79.out.below hbel10); clear hown10 hbel10 hbyt10)
          | fail)
        clear H79 H9 HM1 HX1L HX1R HX1E HB9 HBW9 HB7 hr1
        have HY10 := hidden (H1.out w10 HB10.out)
        go_wp2_with (first
          | (at_builtin; refine wpList_append_byt _ rfl (.const (.slice none 0 0)) (.tmp 63) 22 rfl w10.heap.size 5 i0 (.int .u8 0) Tryd.underlying22 hi hz0 hz1 hz2 rfl _ _ rfl (Own.nil _ w10.heap.size 5) _ _ _ _ _ rfl H10.out rfl ?b1 (Nat.le_refl _) ?_; case b1 => (simp))
          | fail)
        intro u11 w11 hown11 hg11
        have HB11 := hidden ((Below.refl w10.heap.size w10).grown hg11 (Nat.le_refl _) (nob _))
        have HO11 := hidden hown11
        have HY11 := hidden (HY10.out.below HB11.out)
        clear hown11 hg11
        go_wp2_with (first
          | (at_builtin; refine wpList_append_byt _ rfl (.tmp 64) (.tmp 65) 22 rfl w10.heap.size 5 i0 (.int .u8 0) Tryd.underlying22 hi hz0 hz1 hz2 rfl _ _ rfl HO11.out _ _ _ _ _ rfl HY11.out rfl hr3 HB11.out.size ?_)
          | fail)
        intro u12 w12 hown12 hg12
        have HB12 := hidden (HB11.out.grown hg12 HB11.out.size (fun k hk => (HO11.out.lt k hk).1))
        rw [HY1E.out] at hown12
        have HO12 := hidden hown12
        clear hown12 hg12 HO11 HB11 HY11 HY10
        go_wp2_with (first
          | (at_builtin; refine wpList_append_byt _ rfl (.tmp 66) (.tmp 67) 22 rfl w10.heap.size 5 i0 (.int .u8 0) Tryd.underlying22 hi hz0 hz1 hz2 rfl _ _ rfl (HO12.out.alloc _) _ _ _ _ _ rfl (one_byte _ _ 2 ?c0 ?c1) rfl ?c2 ?c3 ?_)
          | fail)
        case c0 => omega
        case c1 => rw [World.cell?_alloc_at _ _ _ _ rfl]; rfl
        case c2 => exact hr2
        case c3 => have := HB12.out.size; simp; omega
        intro u13 w13 hown13 hg13
        have HB13 := hidden ((HB12.out.alloc HB12.out.size _).grown hg13 (by have := HB12.out.size; simp; omega) (fun k hk => (HO12.out.lt k hk).1))
        rw [HX2E.out] at hown13
        obtain ⟨q13, d13, rfl, hbyt13⟩ := hown13.bytN rfl HX2L.out HX2R.out
        have H13 := hidden hbyt13
        have HBW13 := hidden (HB10.out.trans (HB13.out.mono HB10.out.size))
        have H713 := hidden (H710.out.below HB13.out)
        have H1013 := hidden (H10.out.below HB13.out)
        clear hown13 hg13 hbyt13 HO12 HB12 H710 H10
        go_upto_region 18 with (first
          | (go_at_call 9; (with_reducible refine (HM2.out w13 _ _ HBW13.out H13.out).mono ?_); rintro e w14 ⟨v14, rfl, hown14, hbel14⟩; obtain ⟨q14, d14, rfl, hbyt14⟩ := hown14.bytN rfl HT2L.eq HT2R.out; have HB14 := hidden (HBW13.out.trans (hbel14.mono HBW13.out.size)); have H14 := hidden hbyt14; have H714 := hidden (H713.out.below hbel14); have H1014 := hidden (H1013.out.below hbel14); clear hown14 hbel14 hbyt14)
          | (go_at_call 12; (with_reducible refine (HPLUS.out w14 HB14.out).mono ?_); rintro e w15 ⟨q15, d15, rfl, hbyt15, hbel15⟩; have HB15 := hidden (HB14.out.trans (hbel15.mono HB14.out.size)); have H15 := hidden hbyt15; have H715 := hidden (H714.out.below hbel15); have H1015 := hidden (H1014.out.below hbel15); have H1415 := hidden (H14.out.below hbel15); clear hbel15 hbyt15)
          | fail)
        clear H713 H1013 H13 HM2 HX2L HX2R HX2E HY1E HB13 HBW13 HB10 hr2 hr3 HB14 H14 H714 H1014 HPLUS
        go_wp2_with (first
          | (go_at_call 9; (with_reducible refine (HMR.out w15 HB15.out).mono ?_); rintro e w16 ⟨v16, rfl, hown16, hbel16⟩; obtain ⟨q16, d16, rfl, hbyt16⟩ := hown16.bytN rfl HRL.eq HRR.out; have HB16 := hidden (HB15.out.trans (hbel16.mono HB15.out.size)); have H16 := hidden hbyt16; have H716 := hidden (H715.out.below hbel16); have H1016 := hidden (H1015.out.below hbel16); have H1416 := hidden (H1415.out.below hbel16); have H1516 := hidden (H15.out.below hbel16); clear hown16 hbel16 hbyt16)
          | (go_at_call 17; (with_reducible refine (HEQ.out w16 _ _ 32 _ _ R H16.out H716.out).mono ?_); rintro e w17 ⟨rfl, rfl⟩)
          | (at_builtin; refine wpList_append_byt _ rfl (.const (.slice none 0 0)) (.tmp 87) 22 rfl w16.heap.size 5 i0 (.int .u8 0) Tryd.underlying22 hi hz0 hz1 hz2 rfl _ _ rfl (Own.nil _ w16.heap.size 5) _ _ _ _ _ rfl H1016.out rfl ?b1 (Nat.le_refl _) ?_; case b1 => (simp))
          | fail)
        intro u18 w18 hown18 hg18
        have HB18 := hidden ((Below.refl w16.heap.size w16).grown hg18 (Nat.le_refl _) (nob _))
        have HO18 := hidden hown18
        have H1418 := hidden (H1416.out.below HB18.out)
        clear hown18 hg18
        go_wp2_with (first
          | (at_builtin; refine wpList_append_byt _ rfl (.tmp 88) (.tmp 89) 22 rfl w16.heap.size 5 i0 (.int .u8 0) Tryd.underlying22 hi hz0 hz1 hz2 rfl _ _ rfl HO18.out _ _ _ _ _ rfl H1418.out rfl hr4 HB18.out.size ?_)
          | fail)
        intro u19 w19 hown19 hg19
        have HB19 := hidden (HB18.out.grown hg19 HB18.out.size (fun k hk => (HO18.out.lt k hk).1))
        rw [HPE.out] at hown19
        obtain ⟨q19, d19, rfl, hbyt19⟩ := hown19.bytN rfl HPL.out HPR.out
        have H19 := hidden hbyt19
        have H1519 := hidden (H1516.out.below HB19.out)
        clear hown19 hg19 hbyt19 HO18 HB18
        go_wp2_with (first
          | (go_at_call 17; (with_reducible refine (HEQ.out w19 _ _ 64 _ _ P H1519.out H19.out).mono ?_); rintro e w20 ⟨rfl, rfl⟩)
          | fail)
        go_ret
        exact ⟨rfl, HB16.out.trans (HB19.out.mono HB16.out.size)⟩
end Go.Proofs.YtnnbfhjbaagnkaaDoor
