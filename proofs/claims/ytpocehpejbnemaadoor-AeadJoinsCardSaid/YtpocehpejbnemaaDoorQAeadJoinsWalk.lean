/-
  The law AeadJoins, walked: it returns true for every input, and only adds memory of its own.
-/
import Derived.Test.YtpocehpejbnemaaDoorQAeadAll
import Derived.Deep.Cut
import Derived.Deep.CutRange
namespace Go.Proofs.YtpocehpejbnemaaDoor
open Go.RowKit
set_option linter.unusedVariables false

/-- A number below 65536 in eight bytes. -/
theorem le8_small (n : Nat) (h : n < 65536) : le8 n = [(n : Int) % 256, (n : Int) / 256, 0, 0, 0, 0, 0, 0] := by
  simp only [le8, dig, List.cons.injEq, and_true]
  refine ⟨trivial, ?_, ?_, ?_, ?_, ?_, ?_, ?_⟩ <;> omega

set_option maxHeartbeats 6400000 in
set_option maxRecDepth 100000 in
theorem aeadJoins_walk (p0 : Option Addr) (n0 c0 : Nat) (xs0 : List Int) (p1 : Option Addr) (n1 c1 : Nat) (xs1 : List Int) (p2 : Option Addr) (n2 c2 : Nat) (xs2 : List Int) (w : World) (h0 : Byt w p0 n0 c0 xs0) (r0 : c0 ≤ 140737488351232)
    (h1 : Byt w p1 n1 c1 xs1) (r1 : c1 ≤ 140737488351232) (h2 : Byt w p2 n2 c2 xs2) (r2 : c2 ≤ 140737488351232) (hQ : QAt w) :
    Calls Tryd.prog 7 #[.slice p0 n0 c0, .slice p1 n1 c1, .slice p2 n2 c2] w fun e w' => e = .returned (.bool true) ∧ Below w.heap.size w w' := by
  obtain ⟨i0, hi, hz0, hz1, hz2⟩ := info_parts Tryd.infoByte
  have HA := hidden (awake12_any w hQ)
  by_cases hs : n1 ≤ 200 ∧ n0 ≤ 200
  rotate_left
  · by_cases hs1 : n1 ≤ 200
    · have e1 : ¬ (200 : Int) < n1 := by omega
      have e0 : (200 : Int) < n0 := by omega
      clear h0 h1 h2 hQ
      go_enter Tryd.func7, Tryd.ntmps7
      go_wp2_with (first
        | (go_at_call 15; (with_reducible refine (HA.out).mono ?_); rintro e w1 ⟨rfl, hb⟩; have HB1 := hidden hb; clear hb)
        | fail)
      go_ret
      exact ⟨rfl, HB1.out⟩
    · have e1 : (200 : Int) < n1 := by omega
      clear h0 h1 h2 hQ
      go_enter Tryd.func7, Tryd.ntmps7
      go_wp2_with (first
        | (go_at_call 15; (with_reducible refine (HA.out).mono ?_); rintro e w1 ⟨rfl, hb⟩; have HB1 := hidden hb; clear hb)
        | fail)
      go_ret
      exact ⟨rfl, HB1.out⟩
  obtain ⟨s1, s0⟩ := hs
  have e1 : ¬ (200 : Int) < n1 := by omega
  have e0 : ¬ (200 : Int) < n0 := by omega
  have H0 := hidden (fun W (hW : Below w.heap.size w W) => h0.below hW)
  have H1 := hidden (fun W (hW : Below w.heap.size w W) => h1.below hW)
  have H2 := hidden h2
  have HQ := hidden (fun W (hW : Below w.heap.size w W) => hQ.below hW hQ.lt)
  have HX1 := hidden h1.rng
  have HL1 := Is.mk h1.len
  clear h0 h1 h2 hQ
  go_enter Tryd.func7, Tryd.ntmps7
  go_upto_region 6 with (first
    | (go_at_call 15; (with_reducible refine (HA.out).mono ?_); rintro e w1 ⟨rfl, hb⟩; have HB1 := hidden hb; have HN := hidden (new_at w p2 n2 c2 xs2 w1 H2.out hb 60 (by omega) 60 rfl); clear hb)
    | (go_at_call 9; (with_reducible refine (HN.out).mono ?_); rintro e w2 ⟨rfl, hcod, hbel⟩; have HC := hidden hcod; have HB2 := hidden (HB1.out.trans (hbel.mono HB1.out.size)); clear hcod hbel HN)
    | fail)
  have hk := HC.out.lt
  have hkb := HC.out.base
  generalize w1.heap.size = k at *
  have HC1 := hidden (bytes_at w w2 k HC.out 32 (by omega) 32 rfl)
  go_upto_region 7 with (first
    | (go_at_call 16; (with_reducible refine (HC1.out).mono ?_); rintro e w3 ⟨kp, kc, ky, rfl, hb1, hc1, hg1⟩; have HK1 := hidden hb1; have HB3 := hidden (HB2.out.grown hg1 HB2.out.size (fun j e => by cases e; exact hkb)); have hs3 := hg1.size; have HC2 := hidden (bytes_at w w3 k hc1 12 (by omega) 12 rfl); clear hb1 hc1 hg1 HC1)
    | (go_at_call 16; (with_reducible refine (HC2.out).mono ?_); rintro e w4 ⟨np, nc, ny, rfl, hb2, hc2, hg2⟩; have HK2 := hidden (HK1.out.stay hg2 hk).byt; have HN2 := hidden hb2.byt; have HB4 := hidden (HB3.out.grown hg2 HB3.out.size (fun j e => by cases e; exact hkb)); clear hb2 hc2 hg2 HC2)
    | fail)
  have HK := hidden (fun W (hW : Below w4.heap.size w4 W) => HK2.out.below hW)
  have HNO := hidden (fun W (hW : Below w4.heap.size w4 W) => HN2.out.below hW)
  have HBw := hidden (fun W (hW : Below w4.heap.size w4 W) => HB4.out.trans (hW.mono HB4.out.size))
  have hse : sealErr 32 12 = 0 := rfl
  have hsa : sealAny 32 12 ky ny xs0 xs1 = sealA ky ny xs0 xs1 := rfl
  have hsl := sealA_len ky ny xs0 xs1
  have HSE := hidden (seal_to kp np p0 p1 32 kc 12 nc n0 c0 n1 c1 ky ny xs0 xs1 w4 HK2.out HN2.out (H0.out w4 HB4.out) (H1.out w4 HB4.out) (by omega) (by omega) (HQ.out w4 HB4.out))
  rw [HL1.eq] at hsl
  rw [hse, hsa, hsl] at HSE
  have HXO := hidden (fun W (hW : Below w4.heap.size w4 W) => cxor_to kp np p1 kc nc n1 c1 ky ny xs1 1 W (HK.out W hW) (HNO.out W hW) (H1.out W (HBw.out W hW)) (by omega) (HQ.out W (HBw.out W hW)) (by omega) (by omega))
  have HBK := hidden (fun W (hW : Below w4.heap.size w4 W) => cblock_yes kp np kc nc ky ny 0 W (HK.out W hW) (HNO.out W hW) (HQ.out W (HBw.out W hW)))
  obtain ⟨X, hX⟩ : ∃ X, xorC ky 1 ny xs1 = X := ⟨_, rfl⟩
  have hS : sealA ky ny xs0 xs1 = X ++ tagS ((blockC ky 0 ny).take 32) (textA xs0 X) := by rw [← hX]; rfl
  have HXL := Is.mk (show X.length = n1 by rw [← hX, xorC_len]; exact HL1.eq)
  have hXr : ∀ x ∈ X, 0 ≤ x ∧ x ≤ 255 := by rw [← hX]; exact xorC_rng _ _ _ _
  have hTX : textA xs0 X = ((padA xs0 ++ padA X) ++ le8 n0) ++ le8 n1 := by rw [textA, padA, padA, (H0.out w (Below.refl _ _)).len, HXL.eq]; simp only [List.append_assoc]
  have HPL0 := Is.mk (show (padA xs0).length = n0 + fillA n0 by rw [padA_len, (H0.out w (Below.refl _ _)).len])
  have HPL1 := Is.mk (show (padA X).length = n1 + fillA n1 by rw [padA_len, HXL.eq])
  have HPE0 := Is.mk (show padA xs0 = xs0 ++ List.replicate (fillA n0) 0 by rw [padA, (H0.out w (Below.refl _ _)).len])
  have HPE1 := Is.mk (show padA X = X ++ List.replicate (fillA n1) 0 by rw [padA, HXL.eq])
  have hf0 := fillA_lt n0
  have hf1 := fillA_lt n1
  have hm0 := fillA_mod n0
  have hm1 := fillA_mod n1
  have HBL := hidden (blockC_len ky 0 ny)
  have HBR := hidden (blockC_rng ky 0 ny)
  have hTr := textA_rng xs0 X (H0.out w (Below.refl _ _)).rng hXr
  rw [hX] at HXO
  rw [hS] at HSE
  have hsr : ∀ x ∈ X ++ tagS ((blockC ky 0 ny).take 32) (textA xs0 X), 0 ≤ x ∧ x ≤ 255 := rng_append hXr (tagS_rng _ _)
  have HTL := hidden (tagS_len ((blockC ky 0 ny).take 32) (textA xs0 X))
  have HTR2 := hidden (tagS_rng ((blockC ky 0 ny).take 32) (textA xs0 X))
  obtain ⟨T, hT⟩ : ∃ T, tagS ((blockC ky 0 ny).take 32) (textA xs0 X) = T := ⟨_, rfl⟩
  rw [hT] at HSE hsr HTL HTR2
  have HTT := Is.mk hT
  have HTX := Is.mk hTX
  have HTR := hidden hTr
  have HSR := hidden hsr
  have HXR := hidden hXr
  generalize textA xs0 X = TX at *
  generalize blockC ky 0 ny = BK at *
  clear hsl hse hsa HK2 HN2 HC HA hX hS hXr hTX hTr hsr hT
  go_upto_region 12 with (first
    | (go_at_call 17; (with_reducible refine (HSE.out).mono ?_); rintro en w5 ⟨sp, sc, rfl, hs5, hb5⟩; have HS5 := hidden (fun W (hW : Below w5.heap.size w5 W) => hs5.below hW); have HB5 := hidden hb5; have HX5 := hidden (HXO.out w5 hb5); clear hs5 hb5)
    | (go_at_call 24; (with_reducible refine (HX5.out).mono ?_); rintro en w6 ⟨xp, xc, rfl, hx6, hb6⟩; have HY6 := hidden (fun W (hW : Below w6.heap.size w6 W) => hx6.below hW); have HD6 := hidden hb6; have HB6 := hidden (HB5.out.trans (hb6.mono HB5.out.size)); have HX6 := hidden (HBK.out w6 HB6.out); clear hx6 hb6)
    | (go_at_call 25; (with_reducible refine (HX6.out).mono ?_); rintro en w7 ⟨bg, rfl, hbg, hwb, hb7⟩; have HWB := hidden (fun W (hW : Below w7.heap.size w7 W) => hwb.below hW); have HD7 := hidden hb7; have HB7 := hidden (HB6.out.trans (hb7.mono HB6.out.size)); clear hwb hb7)
    | fail)
  go_upto_region 14 with fail
  generalize hw8 : w7.alloc (.cells _ 22) = w8
  have hb78 : Below w7.heap.size w7 w8 := by rw [← hw8]; exact (Below.refl _ _).alloc (Nat.le_refl _) _
  obtain ⟨A, hA0, hA1, hA2⟩ : ∃ A : Nat → List Int, A 0 = [] ∧ A 1 = padA xs0 ∧ A 2 = padA xs0 ++ padA X := ⟨fun j => if j = 0 then [] else if j = 1 then padA xs0 else padA xs0 ++ padA X, rfl, rfl, rfl⟩
  have HPR : Hid (∀ j, j < 2 → ∃ qp qn qc qy, w8.cell? ⟨w7.heap.size, j, none⟩ = some (.slice qp qn qc) ∧ (∀ W, Below w8.heap.size w8 W → Byt W qp qn qc qy) ∧ qn ≤ 200 ∧ qy.length = qn ∧
      A (j + 1) = A j ++ (qy ++ List.replicate (fillA qn) 0) ∧ (A j).length % 16 = 0 ∧ (A j).length ≤ 1000) := by
    have h0 := fun W (hW : Below w8.heap.size w8 W) => H0.out W (HBw.out W ((HB7.out.trans (hb78.mono HB7.out.size)).trans (hW.mono (Nat.le_trans HB7.out.size hb78.size))))
    have hx := fun W (hW : Below w8.heap.size w8 W) => HY6.out W ((HD7.out.trans (hb78.mono HD7.out.size)).trans (hW.mono (Nat.le_trans HD7.out.size hb78.size)))
    have hc0 : w8.cell? ⟨w7.heap.size, 0, none⟩ = some (.slice p0 n0 c0) := by rw [← hw8]; clear h0 hx hb78 hw8; go_simp
    have hc1 : w8.cell? ⟨w7.heap.size, 1, none⟩ = some (.slice xp n1 xc) := by rw [← hw8]; clear h0 hx hc0 hb78 hw8; go_simp
    intro j hj
    have : j = 0 ∨ j = 1 := by omega
    rcases this with rfl | rfl
    · exact ⟨p0, n0, c0, xs0, hc0, h0, by omega, (h0 w8 (Below.refl _ _)).len, by rw [hA0, hA1, HPE0.eq]; rfl, by rw [hA0]; rfl, by rw [hA0]; simp⟩
    · exact ⟨xp, n1, xc, X, hc1, hx, by omega, HXL.eq, by rw [hA1, hA2, HPE1.eq], by rw [hA1, HPL0.eq]; exact hm0, by rw [hA1, HPL0.eq]; omega⟩
  have HA0 := Is.mk hA0
  have HA2 : Is ((A 2 ++ le8 n0) ++ le8 n1) TX := ⟨by rw [hA2, HTX.eq]⟩
  have HAL : Is (A 2).length (n0 + fillA n0 + (n1 + fillA n1)) := ⟨by rw [hA2, List.length_append, HPL0.eq, HPL1.eq]⟩
  clear hw8 hA0 hA1 hA2
  have HB8 := hidden (HB7.out.trans (hb78.mono HB7.out.size))
  have HD8 := hidden hb78
  clear hb78
  go_loopw [16, 79] (fun a i wr => ∃ (j : Nat), j ≤ 2 ∧ i = .int .i64 j ∧ Own wr w8.heap.size 5 a (A j) ∧ Below w8.heap.size w8 wr) (fun _ i _ => 2 - (intOf i).toNat)
  case atStart => exact ⟨0, by omega, rfl, by rw [HA0.eq]; exact Own.nil _ _ _, Below.refl _ _⟩
  case round =>
    obtain ⟨j, hj, rfl, ho, hb⟩ := hrel
    have HO := hidden ho
    have HB := hidden hb
    by_cases hlt : j < 2
    · have hlt' : (j : Int) < 2 := by omega
      obtain ⟨qp, qn, qc, qy, hc, hq, hqn, hql, hAn, hAm, hAl⟩ := HPR.out j hlt
      have HC0 := cell_below hb _ _ hc
      have HY := hidden (hq wr hb)
      have hF := fillA_lt qn
      have hFm := fillA_mod qn
      have hmin : Hid (∀ i, i < fillA qn → ((A j).length + qn + i) % 16 ≠ 0) := fun i hi => by unfold fillA at hi; omega
      have hFz : ((A j).length + qn + fillA qn) % 16 = 0 := by omega
      generalize fillA qn = F at *
      obtain ⟨Z, hZ⟩ : ∃ Z : Nat → List Int, (fun i => A j ++ (qy ++ List.replicate i 0)) = Z := ⟨_, rfl⟩
      have hZ' : ∀ i, A j ++ (qy ++ List.replicate i 0) = Z i := fun i => by rw [← hZ]
      have HZ0 := Is.mk (show A j ++ qy = Z 0 by rw [← hZ' 0]; simp)
      have HZN : Hid (∀ i, Z i ++ [0] = Z (i + 1)) := fun i => by rw [← hZ', ← hZ', List.replicate_succ', List.append_assoc, List.append_assoc]
      have HZE := Is.mk (show Z F = A (j + 1) by rw [← hZ', hAn])
      obtain ⟨AL, hAL⟩ : ∃ AL, (A j).length = AL := ⟨_, rfl⟩
      have HZL : Hid (∀ i, (Z i).length = AL + qn + i) := fun i => by rw [← hZ']; simp [hql, hAL]; omega
      have HAL2 := Is.mk hAL
      rw [hAL] at hAm hAl hmin hFz
      clear hc hq hql hAn hZ hZ' ho hb hAL
      go_upto_region 17 with (first
        | (at_builtin; refine wpList_append_byt _ rfl _ _ 22 rfl w8.heap.size 5 i0 (.int .u8 0) Tryd.underlying22 hi hz0 hz1 hz2 rfl _ _ rfl HO.out _ _ _ _ _ rfl HY.out rfl ?c2 ?c3 ?_)
        | fail)
      case c2 => rw [HAL2.eq]; omega
      case c3 => exact HB.out.size
      intro u9 w9 hown9 hg9
      have HB9 := hidden (HB.out.grown hg9 HB.out.size (fun k hk => (HO.out.lt k hk).1))
      rw [HZ0.eq] at hown9
      obtain ⟨pu, cu, rfl⟩ := hown9.form
      rw [HZL.out 0, show AL + qn + 0 = AL + qn from rfl] at hown9 ⊢
      have HO9 := hidden hown9
      clear hown9 hg9 HO HY HC0
      go_wp2_with fail
      rename World => wo
      go_loopw [16] (fun v wr => ∃ (i : Nat) (p1' : Option Addr) (c1' : Nat), i ≤ F ∧ v = .slice p1' (AL + qn + i) c1' ∧ Own wr w8.heap.size 5 v (Z i) ∧ Below w8.heap.size w8 wr) (fun v _ => F + (AL + qn) - lenV v)
      case atStart => exact ⟨0, pu, cu, by omega, rfl, HO9.out, HB9.out⟩
      case round =>
        obtain ⟨i, p3, c3, hi', rfl, ho, hb⟩ := hrel
        have HO3 := hidden ho
        have HB3 := hidden hb
        clear ho hb HO9 HB9
        by_cases hlt2 : i < F
        · have hm0' := hmin.out i hlt2
          have hne : ((((AL + qn + i : Nat) : Int)) % 16 != 0) = true := by simp; omega
          have hrn := HZN.out i
          go_wp2_with (first
            | (at_builtin; refine wpList_append_byt _ rfl _ _ 22 rfl w8.heap.size 5 i0 (.int .u8 0) Tryd.underlying22 hi hz0 hz1 hz2 rfl _ _ rfl (HO3.out.alloc _) _ _ _ _ _ rfl (one_byte _ _ 0 ?c0 ?c1) rfl ?c2 ?c3 ?_)
            | fail)
          case c0 => omega
          case c1 => rw [World.cell?_alloc_at _ _ _ _ rfl]; rfl
          case c2 => rw [HZL.out i]; omega
          case c3 => have := HB3.out.size; simp; omega
          intro u4 w10 hown10 hg10
          have HB10 := hidden ((HB3.out.alloc HB3.out.size _).grown hg10 (by have := HB3.out.size; simp; omega) (fun k hk => (HO3.out.lt k hk).1))
          obtain ⟨p4, c4, rfl⟩ := hown10.form
          rw [HZL.out] at hown10 ⊢
          have HO10 := hidden hown10
          clear hown10 hg10 HO3 HB3 hne hm0'
          go_wp2
          go_roundw
          case rel => exact ⟨i + 1, p4, c4, by omega, rfl, HO10.out, HB10.out⟩
          case measure => simp [lenV]; omega
        · obtain rfl : i = F := by omega
          have hne : ((((AL + qn + i : Nat) : Int)) % 16 != 0) = false := by simp; omega
          have hoe := HO3.out
          rw [HZE.eq] at hoe
          have HOE := hidden hoe
          clear hoe HO3
          go_wp2
          go_roundw
          case rel => exact ⟨j + 1, by omega, by go_num, HOE.out, HB3.out⟩
          case measure => simp [intOf]; omega
    · have hge : ¬ (j : Int) < 2 := by omega
      obtain rfl : j = 2 := by omega
      obtain ⟨pa, ca, rfl⟩ := ho.form
      clear hlt ho hb
      have HBz := hidden (HBw.out _ ((HB7.out.trans (HD8.out.mono HB7.out.size)).trans (HB.out.mono (Nat.le_trans HB7.out.size HD8.out.size))))
      go_upto_region 21 with fail
      generalize hw11 : wr.alloc (.cells _ 3) = w11
      have hb11 : Below wr.heap.size wr w11 := by rw [← hw11]; exact (Below.refl _ _).alloc (Nat.le_refl _) _
      have hG : w11.heap[wr.heap.size]? = some (.cells #[.int .i64 (n0 : Int), .int .i64 (n1 : Int)] 3 (0, 0)) := by rw [← hw11]; exact heap_alloc_new wr _
      have hlG : wr.heap.size < w11.heap.size := (Array.getElem?_eq_some_iff.1 hG).1
      have hGc : Hid (∀ W : World, W.heap[wr.heap.size]? = some (.cells #[.int .i64 (n0 : Int), .int .i64 (n1 : Int)] 3 (0, 0)) → W.cell? ⟨wr.heap.size, 0, none⟩ = some (.int .i64 n0) ∧ W.cell? ⟨wr.heap.size, 1, none⟩ = some (.int .i64 n1)) :=
        fun W h => ⟨by rw [cell_of_row _ _ _ _ _ _ h]; rfl, by rw [cell_of_row _ _ _ _ _ _ h]; rfl⟩
      obtain ⟨C, hC0, hC1, hC2⟩ : ∃ C : Nat → List Int, C 0 = A 2 ∧ C 1 = A 2 ++ le8 n0 ∧ C 2 = (A 2 ++ le8 n0) ++ le8 n1 := ⟨fun j => if j = 0 then A 2 else if j = 1 then A 2 ++ le8 n0 else (A 2 ++ le8 n0) ++ le8 n1, rfl, rfl, rfl⟩
      have HP2 : Hid (∀ j, j < 2 → ∃ m : Nat, (∀ W : World, W.heap[wr.heap.size]? = some (.cells #[.int .i64 (n0 : Int), .int .i64 (n1 : Int)] 3 (0, 0)) → W.cell? ⟨wr.heap.size, j, none⟩ = some (.int .i64 m)) ∧ m ≤ 200 ∧ C j ++ le8 m = C (j + 1) ∧ (C j).length ≤ 2000) := by
        intro j hj
        have : j = 0 ∨ j = 1 := by omega
        rcases this with rfl | rfl
        · exact ⟨n0, fun W h => (hGc.out W h).1, by omega, by rw [hC0, hC1], by rw [hC0, HAL.eq]; omega⟩
        · exact ⟨n1, fun W h => (hGc.out W h).2, by omega, by rw [hC1, hC2], by rw [hC1, List.length_append, le8_len, HAL.eq]; omega⟩
      have HC0 := Is.mk hC0
      have HC2 : Is (C 2) TX := ⟨by rw [hC2, HA2.eq]⟩
      have HTL8 : Is (C 2).length (n0 + fillA n0 + (n1 + fillA n1) + 16) := ⟨by rw [hC2, List.length_append, List.length_append, le8_len, le8_len, HAL.eq]⟩
      have HO11 := hidden (HO.out.below hb11)
      have HB11 := hidden (HB.out.trans (hb11.mono HB.out.size))
      have HG := hidden hG
      generalize wr.heap.size = G at *
      clear hw11 hC0 hC1 hC2 hb11 HO HB HBz HPR hG
      go_loopw [16, 100] (fun a i wq => ∃ (j : Nat), j ≤ 2 ∧ i = .int .i64 j ∧ Own wq w8.heap.size 5 a (C j) ∧ Below w8.heap.size w8 wq ∧ Hid (wq.heap[G]? = some (.cells #[.int .i64 (n0 : Int), .int .i64 (n1 : Int)] 3 (0, 0)))) (fun _ i _ => 2 - (intOf i).toNat)
      case atStart => exact ⟨0, by omega, rfl, by rw [HC0.eq]; exact HO11.out, HB11.out, HG⟩
      case round =>
        obtain ⟨j, hj, rfl, ho, hb, hb2⟩ := hrel
        have HO := hidden ho
        have HB := hidden hb
        by_cases hlt : j < 2
        · have hlt' : (j : Int) < 2 := by omega
          obtain ⟨m, hc, hm, hCn, hCl⟩ := HP2.out j hlt
          have HCJ := hc _ hb2.out
          have hwm : IntKind.u8.wrap (m : Int) = (m : Int) % 256 := by rw [IntKind.wrap_u8]
          have HM8 : Hid (∀ W : World, Byt (W.alloc (.cells #[.int .u8 ((m : Int) % 256), .int .u8 ((m : Int) / 256), .int .u8 0, .int .u8 0, .int .u8 0, .int .u8 0, .int .u8 0, .int .u8 0] 5)) (some ⟨W.heap.size, 0, none⟩) 8 8 (le8 m)) := fun W => by
            have hr := le8_rng m
            have hl := le8_len m
            have hs := le8_small m (by omega)
            exact (Wb.new W 5 (le8 m) _ (by rw [hs]; rfl)).byt 8 hl (by decide) hr
          have HB2 := hb2
          have HCN := Is.mk hCn
          clear hc ho hb hb2 hCn
          go_upto_region 24 with (first
            | (at_builtin; go_loud (refine wpList_append_byt _ rfl _ _ 22 rfl w8.heap.size 5 i0 (.int .u8 0) Tryd.underlying22 hi hz0 hz1 hz2 rfl _ _ rfl (HO.out.alloc _) _ _ _ _ _ rfl (HM8.out _) rfl ?c2 ?c3 ?_))
            | fail)
          case c2 => omega
          case c3 => have := HB.out.size; simp; omega
          intro u12 w12 hown12 hg12
          have HB12 := hidden ((HB.out.alloc HB.out.size _).grown hg12 (by have := HB.out.size; simp; omega) (fun k hk => (HO.out.lt k hk).1))
          have hGl := (Array.getElem?_eq_some_iff.1 HB2.out).1
          have HD12 : Hid (w12.heap[G]? = some (.cells #[.int .i64 (n0 : Int), .int .i64 (n1 : Int)] 3 (0, 0))) := by
            refine hidden ?_
            have hal : (wr.alloc (.cells #[.int .u8 ((m : Int) % 256), .int .u8 ((m : Int) / 256), .int .u8 0, .int .u8 0, .int .u8 0, .int .u8 0, .int .u8 0, .int .u8 0] 5)).heap[G]? = some (.cells #[.int .i64 (n0 : Int), .int .i64 (n1 : Int)] 3 (0, 0)) := by
              rw [Below.heap_alloc wr _ G hGl]; exact HB2.out
            rw [hg12.block G (Array.getElem?_eq_some_iff.1 hal).1 (fun e => by
              obtain ⟨cur, hcur⟩ := (HO.out.alloc _).typed G e.symm
              rw [hal] at hcur
              exact absurd hcur (by simp))]
            exact hal
          rw [HCN.eq] at hown12
          have HO12 := hidden hown12
          clear hown12 hg12 HO HB HB2 HCJ
          go_wp2
          go_roundw
          case rel => exact ⟨j + 1, by omega, by go_num, HO12.out, HB12.out, HD12.out⟩
          case measure => simp [intOf]; omega
        · have hge : ¬ (j : Int) < 2 := by omega
          obtain rfl : j = 2 := by omega
          rw [HC2.eq] at ho
          obtain ⟨q7, c7, rfl, hy7⟩ := ho.bytN (N := n0 + fillA n0 + (n1 + fillA n1) + 16) (us := TX) rfl (by rw [← HC2.eq]; exact HTL8.eq) HTR.out
          clear hlt
          have hD7 := HD7.out
          have hd8 := HD8.out
          have hb7 : Below w7.heap.size w7 wr := hd8.trans (hb.mono hd8.size)
          have hb6 : Below w6.heap.size w6 wr := hD7.trans (hb7.mono hD7.size)
          have hb5 : Below w5.heap.size w5 wr := HD6.out.trans (hb6.mono HD6.out.size)
          have hBw := HBw.out _ (HB7.out.trans (hb7.mono HB7.out.size))
          have hsum := psum_yes (some ⟨bg, 0, none⟩) q7 64 _ c7 (BK.take 32) TX wr (((HWB.out wr hb7).byt 64 HBL.out (by decide) HBR.out).front 32 (by omega)) hy7 (by omega)
          rw [HTT.eq] at hsum
          have HSUM := hidden hsum
          have HXW := hidden (fun W (hW : Below wr.heap.size wr W) => HY6.out W (hb6.trans (hW.mono hb6.size)))
          have HSW := hidden (fun W (hW : Below wr.heap.size wr W) => HS5.out W (hb5.trans (hW.mono hb5.size)))
          have HBF := hidden hBw
          clear hsum hD7 hd8 hb7 hb6 hb5 hBw ho hb hb2 hy7
          go_upto_region 26 with (first
            | (go_at_call 26; (with_reducible refine (HSUM.out).mono ?_); rintro en w13 ⟨v13, rfl, ho13, hb13⟩; obtain ⟨tp, tc, rfl, ht13⟩ := ho13.bytN (N := 16) rfl HTL.out HTR2.out; have HT13 := hidden ht13; have HB13 := hidden hb13; have HX13 := hidden (HXW.out w13 hb13); have HS13 := hidden (HSW.out w13 hb13); clear ho13 hb13 ht13)
            | fail)
          go_wp2_with (first
            | (at_builtin; refine wpList_append_byt _ rfl _ _ 22 rfl w13.heap.size 5 i0 (.int .u8 0) Tryd.underlying22 hi hz0 hz1 hz2 rfl _ _ rfl (Own.nil _ _ _) _ _ _ _ _ rfl HX13.out rfl ?c2 ?c3 ?_)
            | fail)
          case c2 => simp; omega
          case c3 => exact Nat.le_refl _
          intro u14 w14 hown14 hg14
          have HB14 := hidden ((Below.refl w13.heap.size w13).grown hg14 (Nat.le_refl _) (nob _))
          have HO14 := hidden (show Own w14 w13.heap.size 5 u14 X by simpa using hown14)
          have HT14 := hidden (HT13.out.below HB14.out)
          have HXn := hidden HXL.eq
          clear hown14 hg14
          go_wp2_with (first
            | (at_builtin; refine wpList_append_byt _ rfl _ _ 22 rfl w13.heap.size 5 i0 (.int .u8 0) Tryd.underlying22 hi hz0 hz1 hz2 rfl _ _ rfl HO14.out _ _ _ _ _ rfl HT14.out rfl ?c2 ?c3 ?_)
            | fail)
          case c2 => rw [HXn.out]; omega
          case c3 => exact HB14.out.size
          intro u15 w15 hown15 hg15
          have HB15 := hidden (HB14.out.grown hg15 HB14.out.size (fun k hk => (HO14.out.lt k hk).1))
          obtain ⟨p15, c15, rfl, hy15⟩ := Own.bytN (N := n1 + 16) (us := X ++ T) hown15 rfl (by rw [List.length_append, HXn.out, HTL.out]) HSR.out
          have heq := requal_any sp p15 (n1 + 16) sc (n1 + 16) c15 (X ++ T) (X ++ T) w15 (HSW.out w15 (HB13.out.trans (HB15.out.mono HB13.out.size))) hy15
          rw [decide_eq_true rfl] at heq
          have HEQ := hidden heq
          clear hown15 hg15 hy15 heq HO14
          go_wp2_with (first
            | (go_at_call 21; (with_reducible refine (HEQ.out).mono ?_); rintro e w16 ⟨rfl, r16, rfl⟩)
            | fail)
          go_ret
          exact ⟨rfl, HBF.out.trans ((HB13.out.trans (HB15.out.mono HB13.out.size)).trans ((drew_below ⟨r16, rfl⟩ : Below w15.heap.size w15 (w15.drewN r16)).mono (Nat.le_trans HB13.out.size HB15.out.size)) |>.mono HBF.out.size)⟩
end Go.Proofs.YtpocehpejbnemaaDoor
