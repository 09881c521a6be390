/-
  The law SchnorrAccepts, walked: it returns true for every input, and only adds memory of its own.
-/
import Derived.Test.YtilnbmlbahflkaaDoorASchSame
import Derived.Test.YtilnbmlbahflkaaDoorASchDraw
import Derived.Test.YtilnbmlbahflkaaDoorAZ3
namespace Go.Proofs.YtilnbmlbahflkaaDoor
open Go.RowKit
set_option linter.unusedVariables false

theorem sig_all {A : Nat} {L : List Ct} (h : ∀ j, SigAt A L j) : ∀ x ∈ L, CtG x := fun x hx => by
  obtain ⟨j, hj⟩ := List.mem_iff_getElem?.1 hx
  exact (h j x hj).1

set_option maxHeartbeats 6400000 in
set_option maxRecDepth 100000 in
theorem schnorrAccepts_walk (p0 : Option Addr) (n0 c0 : Nat) (xs0 : List Int) (p1 : Option Addr) (n1 c1 : Nat) (xs1 : List Int) (w : World) (h0 : Byt w p0 n0 c0 xs0) (r0 : c0 ≤ 140737488351232) (h1 : Byt w p1 n1 c1 xs1) (r1 : c1 ≤ 140737488351232) (hK : KAt w) :
    Calls Tryd.prog 5 #[.slice p0 n0 c0, .slice p1 n1 c1] w fun e w' => e = .returned (.bool true) ∧ Below w.heap.size w w' := by
  have HA := hidden (awake15_any w hK)
  by_cases hs : n1 ≤ 300
  rotate_left
  · have e0 : (300 : Int) < n1 := by omega
    clear h0 h1 hK
    go_enter Tryd.func5, Tryd.ntmps5
    go_wp2_with (first
      | (go_at_call 6; (with_reducible refine (HA.out).mono ?_); rintro e w1 ⟨rfl, hb⟩; have HB1 := hidden hb; clear hb)
      | fail)
    go_ret
    exact ⟨rfl, HB1.out⟩
  have e0 : ¬ (300 : Int) < n1 := by omega
  have H0 := hidden h0
  have HM := hidden (fun W (hW : Below w.heap.size w W) => h1.below hW)
  have HK := hidden (fun W (hW : Below w.heap.size w W) => hK.below hW hK.lt)
  have HSG := hidden (fun (x : Nat) (hx : x < 18446744073709551616) W (hW : Below w.heap.size w W) => signS_any x hx p1 n1 c1 xs1 W (HM.out W hW) (by omega) (HK.out W hW))
  have HVE := hidden (fun (y : Nat) (hy : y < 18446744073709551616) (q : Option Addr) (k d : Nat) (s : List Int) W (hW : Below w.heap.size w W) (hs : Byt W q k d s) => verS_any y hy p1 n1 c1 xs1 q k d s W (HM.out W hW) (by omega) hs (HK.out W hW))
  clear h0 h1 hK HM
  go_enter Tryd.func5, Tryd.ntmps5
  go_upto_region 6 with (first
    | (go_at_call 6; (with_reducible refine (HA.out).mono ?_); rintro e w1 ⟨rfl, hb⟩; have HB1 := hidden hb; clear hb)
    | (go_at_call 7; (refine (new_any w p0 n0 c0 xs0 w1 H0.out HB1.out 160 (by omega)).mono ?_); rintro e w2 ⟨rfl, hcod, hbel⟩; have HC := hidden hcod; have HB2 := hidden (HB1.out.trans (hbel.mono HB1.out.size)); clear hcod hbel)
    | fail)
  have hk := HC.out.lt
  have hkb := HC.out.base
  generalize w1.heap.size = k at *
  have HSC := hidden (secret_any w w2 k HC.out)
  go_upto_region 7 with (first
    | (go_at_call 8; (with_reducible refine (HSC.out).mono ?_); rintro e w3 ⟨⟨x, rfl, hx1, hx2⟩, hc3, hg3⟩; have HB3 := hidden (HB2.out.grown hg3 HB2.out.size (fun j e => by cases e; exact hkb)); have HC3 := hidden hc3; have HX1 := hidden hx1; have HX2 := hidden hx2; clear hc3 hg3 hx1 hx2)
    | fail)
  have hxl : x < 18446744073709551616 := Nat.lt_trans HX2.out gq_big
  have hE : pubE x = 0 := by unfold pubE; rw [if_pos (gsec_yes x ⟨HX1.out, HX2.out⟩)]
  have HPU := hidden (fun W => rpub_any x hxl W)
  rw [hE] at HPU
  have hyl : pubV x < 18446744073709551616 := Nat.lt_trans (pubV_lt x) gp_big
  have HYL := hidden hyl
  have HV0 := Is.mk (ver_sign x HX1.out HX2.out xs1)
  have HSX := hidden (HSG.out x hxl)
  rw [hE] at HSX
  generalize pubV x = y at *
  generalize sigL x xs1 = SS at *
  clear HSC hE hyl HSG hxl HX1 HX2
  go_upto_region 8 with (first
    | (go_at_call 9; (with_reducible refine (HPU.out _).mono ?_); rintro e w4 ⟨rfl, hb⟩; have HB4 := hidden (HB3.out.trans (hb.mono HB3.out.size)); have HC4 := hidden (HC3.out.below hb); have HSX4 := hidden (HSX.out w4 HB4.out); clear hb HPU HSX)
    | fail)
  go_upto_region 9 with (first
    | (go_at_call 11; (with_reducible refine (HSX4.out).mono ?_); rintro e w5 ⟨p5, N5, c5, rfl, hy5, hb5⟩; have HB5 := hidden (HB4.out.trans (hb5.mono HB4.out.size)); have HC5 := hidden (HC4.out.below hb5); have HV5 := hidden (HVE.out y HYL.out p5 N5 c5 SS w5 HB5.out hy5); clear hy5 hb5 HSX4 HB4 HC4)
    | fail)
  rw [HV0.eq] at HV5
  clear HVE HV0 HYL
  go_upto_region 11 with (first
    | (go_at_call 14; (with_reducible refine (HV5.out).mono ?_); rintro e w6 ⟨rfl, hb⟩; have HB6 := hidden (HB5.out.trans (hb.mono HB5.out.size)); have HC6 := hidden (HC5.out.below hb); clear hb HV5 HB5 HC5)
    | fail)
  have HDR := hidden (draw_any w w6 k HC6.out)
  go_upto_region 12 with (first
    | (go_at_call 16; (with_reducible refine (HDR.out).mono ?_); rintro e w7 ⟨sa, n, g, L, rfl, ha1, ha2, hn1, hn3, hln, hgg, hrow, hbod, hsig, hc7, hg7⟩; have HB7 := hidden (HB6.out.grown hg7 HB6.out.size (fun j e => by cases e; exact hkb)); have HROW := hidden hrow; have HBOD := hidden hbod; have HSIG := hidden hsig; have HLN := Is.mk hln; have HA1 := hidden ha1; have HA2 := hidden ha2; clear hrow hbod hsig hc7 hg7 hgg ha1 ha2 HDR)
    | fail)
  have hsl : sa < 18446744073709551616 := Nat.lt_trans HA2.out gq_big
  have hE : pubE sa = 0 := by unfold pubE; rw [if_pos (gsec_yes sa ⟨HA1.out, HA2.out⟩)]
  have HPU := hidden (fun W => rpub_any sa hsl W)
  rw [hE] at HPU
  have hyl : pubV sa < 18446744073709551616 := Nat.lt_trans (pubV_lt sa) gp_big
  have hCG := sig_all HSIG.out
  have HCG := hidden hCG
  have HOK := hidden (fun x hx => (hCG x hx).ok : ∀ x ∈ L, CtOk x)
  have hwg := wk_good (pubV sa) L 15 (by omega) (by omega) HSIG.out n (by omega)
  rw [keyAt_end _ _ _ (by omega)] at hwg
  have hwl := wk_late (pubV sa) L 100 (by omega) HSIG.out n (pubV sa) hn1 (by omega)
  have HWG := Is.mk hwg
  have HWL := Is.mk hwl
  have HBY := hidden (fun x hx => (HBOD.out x hx).byt : ∀ x ∈ L, Byt w7 x.p x.n x.c x.g)
  have HK7 := hidden (fun W (hW : Below w7.heap.size w7 W) => HK.out W (HB7.out.trans (hW.mono HB7.out.size)))
  have HCH := hidden (fun (now : Int) (W : World) (hW : Below w7.heap.size w7 W) => chain_any L g n HLN.eq hn1 (by omega) HOK.out now (pubV sa) hyl W (HROW.out.below hW) (fun x hx => (HBY.out x hx).below hW) (HK7.out W hW))
  have HEN := hidden (fun (W : World) (hW : Below w7.heap.size w7 W) => enc_ok L g n HLN.eq (by omega) HCG.out W (HROW.out.below hW) (fun x hx => (HBY.out x hx).below hW))
  have HDE := hidden (fun (p : Option Addr) (N c : Nat) (W : World) (hy : Byt W p N c (encL L)) => dec_ok L n HLN.eq (by omega) HCG.out p N c W hy)
  have HC15 := hidden (fun (W : World) (hW : Below w7.heap.size w7 W) => (HCH.out 15 W hW).mono (fun e w' h9 => (by
    obtain ⟨⟨-, he⟩ | ⟨hne, -⟩, hb⟩ := h9
    · exact ⟨he, hb⟩
    · exact absurd HWG.eq hne : e = .returned (.tuple #[.string (L.getD 0 zc).s, .int .u64 ((L.getD 0 zc).k : Int), .int .i64 0]) ∧ Below W.heap.size W w')))
  have HC100 := hidden (fun (W : World) (hW : Below w7.heap.size w7 W) => (HCH.out 100 W hW).mono (fun e w' h9 => (by
    rw [HWL.eq] at h9
    obtain ⟨⟨hne, -⟩ | ⟨-, he⟩, hb⟩ := h9
    · exact absurd hne (by decide)
    · exact ⟨he, hb⟩ : e = .returned (.tuple #[.string ⟨#[]⟩, .int .u64 0, .int .i64 19]) ∧ Below W.heap.size W w')))
  have HAT := hidden (fun (W : World) (hW : Below w7.heap.size w7 W) => (HROW.out.below hW).at_ 0 (by have := HLN.eq; omega))
  have HRD := hidden (fun (W : World) (hW : Below w7.heap.size w7 W) => (HROW.out.below hW).rd HLN.eq (by omega) (fun x hx => (HBY.out x hx).below hW))
  generalize pubV sa = y2 at *
  generalize L.getD 0 zc = x0 at *
  obtain ⟨s0, k0, f0, t0, a0, pp0, m0, d0, gg0⟩ := x0
  simp only at HC15
  clear hE hyl hwg hwl HWG HWL HSIG HK HK7 HA1 HA2 hCG HCH HOK hsl HBOD HROW HBY HC6 HB6 HCG
  go_upto_region 13 with (first
    | (go_at_call 9; (with_reducible refine (HPU.out _).mono ?_); rintro e w8 ⟨rfl, hb⟩; have HB8 := hidden hb; clear hb HPU)
    | fail)
  go_upto_region 14 with (first
    | (go_at_call 20; (with_reducible refine (HC15.out _ HB8.out).mono ?_); rintro e w9 ⟨rfl, hb⟩; have HB9 := hidden (HB8.out.trans (hb.mono HB8.out.size)); clear hb HC15 HB8)
    | fail)
  go_upto_region 15 with (first
    | (go_at_call 20; (with_reducible refine (HC100.out _ HB9.out).mono ?_); rintro e w10 ⟨rfl, hb⟩; have HB10 := hidden (HB9.out.trans (hb.mono HB9.out.size)); clear hb HC100 HB9)
    | fail)
  go_upto_region 16 with (first
    | (go_at_call 22; (with_reducible refine (HEN.out _ HB10.out).mono ?_); rintro e w11 ⟨p11, n11, c11, rfl, hy11, hb⟩; have HB11 := hidden (HB10.out.trans (hb.mono HB10.out.size)); have HD11 := hidden (HDE.out p11 n11 c11 w11 hy11); clear hb hy11 HEN HB10 HDE)
    | fail)
  go_upto_region 17 with (first
    | (go_at_call 24; (with_reducible refine (HD11.out).mono ?_); rintro e w12 ⟨v12, l12, rfl, hr12, hz12, hb⟩; have hl12 : l12.length = n := (by have h9 := congrArg List.length hz12; rw [List.length_map, List.length_map, HLN.eq] at h9; exact h9); obtain ⟨q12, d12, rfl, hrd⟩ := hr12.rd (D := DCt) hl12 (fun x hx => hx.byt); have HB12 := hidden (HB11.out.trans (hb.mono HB11.out.size)); have HRD12 := hidden hrd; have HZ12 := hidden hz12; clear hb hr12 hz12 hl12 hrd HD11 HB11)
    | fail)
  obtain ⟨e0', e1', e2', e3', e4', e5'⟩ := HAT.out w12 HB12.out
  simp only [Nat.zero_mul, Nat.zero_add] at e0' e1'
  have HSA := hidden (rsameall_yes q12 (some ⟨g, 0, none⟩) n d12 n l12 L w12 HRD12.out (HRD.out w12 HB12.out) HZ12.out (by omega))
  have HBF := hidden (HB7.out.trans (HB12.out.mono HB7.out.size))
  have hn0 : (0 : Int) < (n : Int) := by omega
  clear HAT HRD HRD12 HZ12 HB12 HB7 e2' e3' e4' e5' hln HLN HA H0 HB1 HB2 HB3 HC HC3
  go_wp2_with (first
    | (go_at_call 26; (with_reducible refine (HSA.out).mono ?_); rintro e w13 ⟨rfl, hb⟩; have HB13 := hidden (HBF.out.trans (hb.mono HBF.out.size)); clear hb HSA)
    | fail)
  go_ret
  exact ⟨rfl, HB13.out⟩
end Go.Proofs.YtilnbmlbahflkaaDoor
