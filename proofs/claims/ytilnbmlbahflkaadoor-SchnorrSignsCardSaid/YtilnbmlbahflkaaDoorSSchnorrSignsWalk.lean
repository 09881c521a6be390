/-
  The law SchnorrSigns, walked: it returns true for every input, and only adds memory of its own.
-/
import Derived.Test.YtilnbmlbahflkaaDoorSSch15
import Derived.Test.YtilnbmlbahflkaaDoorSCodes2
import Derived.Test.YtilnbmlbahflkaaDoorSChange
import Derived.Test.YtilnbmlbahflkaaDoorSRCompare
import Derived.Deep.RegionHeld3
namespace Go.Proofs.YtilnbmlbahflkaaDoor
open Go.RowKit
set_option linter.unusedVariables false

set_option maxHeartbeats 3200000 in
set_option maxRecDepth 100000 in
theorem schnorrSigns_walk (p0 : Option Addr) (n0 c0 : Nat) (xs0 : List Int) (z1 z2 : Int) (p3 : Option Addr) (n3 c3 : Nat) (xs3 : List Int) (p4 : Option Addr) (n4 c4 : Nat) (xs4 : List Int) (w : World) (h0 : Byt w p0 n0 c0 xs0) (r0 : c0 ≤ 140737488351232)
    (g1 : 0 ≤ z1 ∧ z1 ≤ 18446744073709551615) (g2 : 0 ≤ z2 ∧ z2 ≤ 18446744073709551615) (h3 : Byt w p3 n3 c3 xs3) (r3 : c3 ≤ 140737488351232) (h4 : Byt w p4 n4 c4 xs4) (r4 : c4 ≤ 140737488351232) (hK : KAt w) :
    Calls Tryd.prog 3 #[.slice p0 n0 c0, .int .u64 z1, .int .u64 z2, .slice p3 n3 c3, .slice p4 n4 c4] w fun e w' => e = .returned (.bool true) ∧ Below w.heap.size w w' := by
  have HA := hidden (awake15_any w hK)
  by_cases hs : n3 ≤ 300
  rotate_left
  · have e0 : (300 : Int) < n3 := by omega
    clear h0 h3 h4 hK
    go_enter Tryd.func3, Tryd.ntmps3
    go_wp2_with (first
      | (go_at_call 6; (with_reducible refine (HA.out).mono ?_); rintro e w1 ⟨rfl, hb⟩; have HB1 := hidden hb; clear hb)
      | fail)
    go_ret
    exact ⟨rfl, HB1.out⟩
  have e0 : ¬ (300 : Int) < n3 := by omega
  obtain ⟨k1, rfl⟩ := Int.eq_ofNat_of_zero_le g1.1
  obtain ⟨k2, rfl⟩ := Int.eq_ofNat_of_zero_le g2.1
  have hk1 : k1 < 18446744073709551616 := by omega
  have hk2 : k2 < 18446744073709551616 := by omega
  have H0 := hidden h0
  have HM := hidden (fun W (hW : Below w.heap.size w W) => h3.below hW)
  have HG := hidden (fun W (hW : Below w.heap.size w W) => h4.below hW)
  have HK := hidden (fun W (hW : Below w.heap.size w W) => hK.below hW hK.lt)
  have HSG := hidden (fun (x : Nat) (hx : x < 18446744073709551616) W (hW : Below w.heap.size w W) => signS_any x hx p3 n3 c3 xs3 W (HM.out W hW) (by omega) (HK.out W hW))
  have HRS := hidden (fun (x : Nat) (hx : x < 18446744073709551616) W (hW : Below w.heap.size w W) => rsignS_bod x hx p3 n3 c3 xs3 W (HM.out W hW) (by omega))
  have HVE := hidden (fun (y : Nat) (hy : y < 18446744073709551616) (q : Option Addr) (k d : Nat) (s : List Int) W (hW : Below w.heap.size w W) (hs : Byt W q k d s) => verS_any y hy p3 n3 c3 xs3 q k d s W (HM.out W hW) (by omega) hs (HK.out W hW))
  have HRV := hidden (fun (y : Nat) (hy : y < 18446744073709551616) (q : Option Addr) (k d : Nat) (s : List Int) W (hW : Below w.heap.size w W) (hs : Byt W q k d s) => rverS_any y hy p3 n3 c3 xs3 q k d s W (HM.out W hW) (by omega) hs)
  clear h0 h3 h4 hK HM HK
  go_enter Tryd.func3, Tryd.ntmps3
  go_upto_region 6 with (first
    | (go_at_call 6; (with_reducible refine (HA.out).mono ?_); rintro e w1 ⟨rfl, hb⟩; have HB1 := hidden hb; clear hb)
    | (go_at_call 7; (refine (new_any w p0 n0 c0 xs0 w1 H0.out HB1.out 80 (by omega)).mono ?_); rintro e w2 ⟨rfl, hcod, hbel⟩; have HC := hidden hcod; have HB2 := hidden (HB1.out.trans (hbel.mono HB1.out.size)); clear hcod hbel)
    | fail)
  have hk := HC.out.lt
  have hkb := HC.out.base
  generalize w1.heap.size = k at *
  have HSC := hidden (secret_any w w2 k HC.out)
  go_upto_region 7 with (first
    | (go_at_call 8; (with_reducible refine (HSC.out).mono ?_); rintro e w3 ⟨⟨x, rfl, hx1, hx2⟩, hc3, hg3⟩; have HB3 := hidden (HB2.out.grown hg3 HB2.out.size (fun j e => by cases e; exact hkb)); have HC3 := hidden hc3; have HX1 := hidden hx1; have HX2 := hidden hx2; clear hc3 hg3 hx1 hx2)
    | fail)
  have hxl : x < 18446744073709551616 := Nat.lt_trans HX2.out gq_big
  have hE : pubE x = 0 := by unfold pubE; rw [if_pos (gsec_yes x ⟨HX1.out, HX2.out⟩)]
  have HPU := hidden (fun W => rpub_any x hxl W)
  rw [hE] at HPU
  have hyl : pubV x < 18446744073709551616 := Nat.lt_trans (pubV_lt x) gp_big
  have HYL := hidden hyl
  have hsl := sigL_le x xs3
  generalize pubV x = y at *
  have HRX := hidden (HRS.out x hxl)
  rw [hE] at HRX
  have HS16 := hidden hsl
  have HXL := hidden hxl
  clear HSC hE hyl hsl
  generalize hSS : sigL x xs3 = SS at HRX HS16
  clear hSS
  go_upto_region 8 with (first
    | (go_at_call 9; (with_reducible refine (HPU.out _).mono ?_); rintro e w4 ⟨rfl, hb⟩; have HB4 := hidden (HB3.out.trans (hb.mono HB3.out.size)); have HC4 := hidden (HC3.out.below hb); have HRX4 := hidden (HRX.out w4 HB4.out); clear hb)
    | fail)
  go_upto_region 9 with (first
    | (go_at_call 10; (with_reducible refine (HRX4.out).mono ?_); rintro e w5 ⟨p5, N5, c5, rfl, hy5, hb5⟩; have HB5 := hidden (HB4.out.trans (hb5.mono HB4.out.size)); have HC5 := hidden (HC4.out.below hb5); have HS5 := hidden hy5; have hk4 : k < w4.heap.size := (HC4.out.lt); clear hy5 hb5 HRX4)
    | fail)
  have hN5 : N5 ≤ 16 := by have := HS5.out.byt.len; have := HS16.out; omega
  clear HRX HPU HC3 HC4 HC HB1 HB2 HB3 HA hk HX1 HX2
  have hgb : w.heap.size ≤ w5.heap.size := HB5.out.size
  go_upto_region 10 with fail
  generalize hw6 : w5.alloc (.cells _ 23) = w6
  have HB56 : Hid (Below w5.heap.size w5 w6) := by rw [← hw6]; exact hidden ((Below.refl _ _).alloc (Nat.le_refl _) _)
  have HK2 : Hid (∀ j, j < 2 → ∃ s : Nat, s < 18446744073709551616 ∧ w6.cell? ⟨w5.heap.size, j, none⟩ = some (.int .u64 (s : Int))) := by
    intro j hj
    have : j = 0 ∨ j = 1 := by omega
    have hxl := HXL.out
    rw [← hw6]
    clear hw6 HB56
    rcases this with rfl | rfl
    · exact ⟨k1, hk1, by go_simp⟩
    · exact ⟨x, hxl, by go_simp⟩
  clear hw6
  go_wp2
  go_loopw [50] (fun i wr => ∃ j : Nat, j ≤ 2 ∧ i = .int .i64 j ∧ Below w6.heap.size w6 wr) (fun i _ => 2 - (intOf i).toNat)
  case atStart => exact ⟨0, by omega, rfl, Below.refl _ _⟩
  case round =>
    obtain ⟨j, hj, rfl, hb⟩ := hrel
    have hs56 : w5.heap.size ≤ w6.heap.size := HB56.out.size
    have HBr := hidden hb
    have HB5r := hidden (HB56.out.trans (hb.mono hs56))
    have HBwr := hidden (HB5.out.trans (HB5r.out.mono hgb))
    by_cases hlt : j < 2
    · have hlt' : (j : Int) < 2 := by omega
      obtain ⟨s, hsl, hc0⟩ := HK2.out j hlt
      have HC0 := cell_below hb _ _ hc0
      have HSX := hidden (HSG.out s hsl wr HBwr.out)
      have HRXs := hidden (HRS.out s hsl)
      generalize pubE s = E at *
      generalize sigL s xs3 = L at *
      clear hc0 hb
      go_upto_region 13 with (first
        | (go_at_call 11; (with_reducible refine (HSX.out).mono ?_); rintro en w7 ⟨p7, N7, c7, rfl, hy7, hb7⟩; have HY7 := hidden (fun W (hW : Below w7.heap.size w7 W) => hy7.below hW); have HB7 := hidden (HBr.out.trans (hb7.mono HBr.out.size)); have HBw7 := hidden (HBwr.out.trans (hb7.mono HBwr.out.size)); have HX7 := hidden (HRXs.out w7 HBw7.out); clear hy7 hb7)
        | fail)
      clear HC0
      go_upto_region 14 with (first
        | (go_at_call 10; (with_reducible refine (HX7.out).mono ?_); rintro en w8 ⟨p8, N8, c8, rfl, hy8, hb8⟩; have HB8 := hidden (HB7.out.trans (hb8.mono HB7.out.size)); have he := requal_any p7 p8 N7 c7 N8 c8 L L w8 (HY7.out w8 hb8) hy8.byt; rw [decide_eq_true rfl] at he; have HE8 := hidden he; clear hy8 hb8 he)
        | fail)
      go_wp2_with (first
        | (go_at_call 12; (with_reducible refine (HE8.out).mono ?_); rintro e w9 ⟨rfl, r9, rfl⟩)
        | fail)
      go_roundw
      case rel => exact ⟨j + 1, by omega, by go_num, HB8.out.trans ((drew_below ⟨r9, rfl⟩ : Below w8.heap.size w8 (w8.drewN r9)).mono HB8.out.size)⟩
      case measure => simp [intOf]; omega
    · have hge : ¬ (j : Int) < 2 := by omega
      have HCH := hidden (change_bod w wr k (HC5.out.below HB5r.out) p5 N5 c5 SS (HS5.out.byt.below HB5r.out) (by omega))
      have HSr := hidden (HS5.out.below HB5r.out)
      clear hb hlt hj HB56 HK2 HSG HRS HC5 HS5 HBr hs56 hk1
      go_upto_region 18 with (first
        | (go_at_call 13; (with_reducible refine (HCH.out).mono ?_); rintro en w9 ⟨p9, N9, c9, S9, rfl, hy9, hn9, hc9, hg9⟩; have HS9 := hidden (HSr.out.grown hg9 (OffB.low hk4)); have HY9 := hidden hy9.byt; have HB9 := hidden (HBwr.out.grown hg9 HBwr.out.size (fun j e => by cases e; exact hkb)); clear hy9 hc9 hg9 HCH)
        | fail)
      clear HSr hk4 HBwr HB5r hgb hkb
      go_upto_region 19 with fail
      generalize hw10 : w9.alloc (.cells _ _) = w10
      have HB910 : Hid (Below w9.heap.size w9 w10) := by rw [← hw10]; exact hidden ((Below.refl _ _).alloc (Nat.le_refl _) _)
      have HPR : Hid (∀ j, j < 4 → ∃ (s : Nat) (qp : Option Addr) (qn qc : Nat) (qx : List Int), s < 18446744073709551616 ∧ w10.cell? ⟨w9.heap.size, j * 2, none⟩ = some (.int .u64 (s : Int)) ∧ w10.cell? ⟨w9.heap.size, j * 2 + 1, none⟩ = some (.slice qp qn qc) ∧ (∀ W, Below w9.heap.size w9 W → Byt W qp qn qc qx)) := by
        have hg := fun W (hW : Below w9.heap.size w9 W) => HG.out W (HB9.out.trans (hW.mono HB9.out.size))
        have hS := fun W (hW : Below w9.heap.size w9 W) => HS9.out.byt.below hW
        have hC := fun W (hW : Below w9.heap.size w9 W) => HY9.out.below hW
        have hy := HYL.out
        intro j hj
        have : j = 0 ∨ j = 1 ∨ j = 2 ∨ j = 3 := by omega
        rw [← hw10]
        clear hw10 HB910
        rcases this with rfl | rfl | rfl | rfl
        · exact ⟨y, _, _, _, SS, hy, by go_simp, by go_simp, hS⟩
        · exact ⟨k2, _, _, _, SS, hk2, by go_simp, by go_simp, hS⟩
        · exact ⟨y, _, _, _, xs4, hy, by go_simp, by go_simp, hg⟩
        · exact ⟨y, _, _, _, S9, hy, by go_simp, by go_simp, hC⟩
      clear hw10 HS9 HY9 HYL HG
      have hs0 : w.heap.size ≤ w9.heap.size := HB9.out.size
      obtain ⟨B9, hB9⟩ : ∃ B, w9.heap.size = B := ⟨_, rfl⟩
      rw [hB9] at HPR HB910 hs0 ⊢
      have HWX := hidden (fun W (hW : Below B9 w9 W) => HB9.out.trans (hW.mono hs0))
      have hs910' : B9 ≤ w10.heap.size := by rw [← hB9]; exact HB910.out.size
      have HSZ := hidden hs910'
      clear hB9 hs910'
      go_wp2
      go_loopw [93] (fun i wr => ∃ j : Nat, j ≤ 4 ∧ i = .int .i64 j ∧ Below w10.heap.size w10 wr) (fun i _ => 4 - (intOf i).toNat)
      case atStart => exact ⟨0, by omega, rfl, Below.refl _ _⟩
      case round =>
        obtain ⟨j, hj, rfl, hb⟩ := hrel
        have HB := hidden hb
        have hs910 : B9 ≤ w10.heap.size := HSZ.out
        by_cases hlt : j < 4
        · have hlt' : (j : Int) < 4 := by omega
          obtain ⟨s, qp, qn, qc, qx, hsl, hc0, hc1, hq⟩ := HPR.out j hlt
          have HC0 := cell_below hb _ _ hc0
          have HC1 := cell_below hb _ _ hc1
          have HQ := hidden hq
          clear hc0 hc1 hq hb
          go_upto_region 21 with fail
          generalize hw11 : wr.alloc (.cells _ _) = w11
          have hd0 : w11.cell? ⟨wr.heap.size, 0, none⟩ = some (.int .u64 (s : Int)) := by rw [← hw11]; clear hw11; go_simp
          have hd1 : w11.cell? ⟨wr.heap.size, 1, none⟩ = some (.slice qp qn qc) := by rw [← hw11]; clear hw11; go_simp
          have HB11 : Hid (Below w10.heap.size w10 w11) := by rw [← hw11]; exact hidden (HB.out.alloc HB.out.size _)
          have HCC := hidden (fun W (hW : Below w11.heap.size w11 W) => (⟨cell_below hW _ _ hd0, cell_below hW _ _ hd1⟩ : W.cell? ⟨wr.heap.size, 0, none⟩ = some (.int .u64 (s : Int)) ∧ W.cell? ⟨wr.heap.size, 1, none⟩ = some (.slice qp qn qc)))
          generalize wr.heap.size = G at *
          have H9 := hidden (fun W (hW : Below w11.heap.size w11 W) => (HB910.out.trans (HB11.out.mono hs910)).trans (hW.mono (Nat.le_trans hs910 HB11.out.size)))
          have HV1 := hidden (fun W (hW : Below w11.heap.size w11 W) => HVE.out s hsl qp qn qc qx W (HWX.out W (H9.out W hW)) (HQ.out W (H9.out W hW)))
          have HV2 := hidden (fun W (hW : Below w11.heap.size w11 W) => HRV.out s hsl qp qn qc qx W (HWX.out W (H9.out W hW)) (HQ.out W (H9.out W hW)))
          generalize verE s xs3 qx = E at *
          have he1 : (E != E) = false := by simp
          have HBX : Hid (Below w11.heap.size w11 w11.drew) := hidden (drew_below ⟨1, rfl⟩)
          clear hw11 HC0 HC1 HB hd0 hd1 HQ H9 hsl
          go_region_held3 (fun w' => w'.cell? ⟨G, 0, none⟩ = some (.int .u64 (s : Int)) ∧ w'.cell? ⟨G, 1, none⟩ = some (.slice qp qn qc)) (first | exact HCC.out _ HBX.out | go_keep)
            (first
              | (go_at_call 14; (with_reducible refine (HV1.out _ HBX.out).mono ?_); rintro e wn ⟨rfl, hb⟩; replace HBX := hidden (HBX.out.trans (hb.mono HBX.out.size)); clear hb)
              | (go_at_call 15; (with_reducible refine (HV2.out _ HBX.out).mono ?_); rintro e wn ⟨rfl, hb⟩; replace HBX := hidden (HBX.out.trans (hb.mono HBX.out.size)); clear hb))
          all_goals
            go_wp2
            go_roundw
            case rel => exact ⟨j + 1, by omega, by go_num, HB11.out.trans (HBX.out.mono HB11.out.size)⟩
            case measure => simp [intOf]; omega
        · have hge : ¬ (j : Int) < 4 := by omega
          have HE := hidden (HWX.out wr (HB910.out.trans (hb.mono hs910)))
          clear hb hlt hj HPR HVE HRV HWX
          go_wp2
          go_ret
          exact ⟨rfl, HE.out⟩
end Go.Proofs.YtilnbmlbahflkaaDoor
