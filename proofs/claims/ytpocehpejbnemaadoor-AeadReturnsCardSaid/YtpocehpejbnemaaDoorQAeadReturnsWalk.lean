/-
  The law AeadReturns, walked: it returns true for every input, and only adds memory of its own.
-/
import Derived.Test.YtpocehpejbnemaaDoorQAeadAll
import Derived.Deep.Cut
import Derived.Deep.CutRange
namespace Go.Proofs.YtpocehpejbnemaaDoor
open Go.RowKit
set_option linter.unusedVariables false

set_option maxHeartbeats 3200000 in
set_option maxRecDepth 100000 in
theorem aeadReturns_walk (p0 : Option Addr) (n0 c0 : Nat) (xs0 : List Int) (p1 : Option Addr) (n1 c1 : Nat) (xs1 : List Int) (p2 : Option Addr) (n2 c2 : Nat) (xs2 : List Int) (z3 z4 : Int) (w : World) (h0 : Byt w p0 n0 c0 xs0) (r0 : c0 ≤ 140737488351232)
    (h1 : Byt w p1 n1 c1 xs1) (r1 : c1 ≤ 140737488351232) (h2 : Byt w p2 n2 c2 xs2) (r2 : c2 ≤ 140737488351232) (g3 : 0 ≤ z3 ∧ z3 ≤ 255) (g4 : 0 ≤ z4 ∧ z4 ≤ 255) (hQ : QAt w) :
    Calls Tryd.prog 6 #[.slice p0 n0 c0, .slice p1 n1 c1, .slice p2 n2 c2, .int .u8 z3, .int .u8 z4] w fun e w' => e = .returned (.bool true) ∧ Below w.heap.size w w' := by
  obtain ⟨i0, hi, hz0, hz1, hz2⟩ := info_parts Tryd.infoByte
  have HA := hidden (awake12_any w hQ)
  by_cases hs : n1 ≤ 300 ∧ n0 ≤ 300
  rotate_left
  · by_cases hs1 : n1 ≤ 300
    · have e1 : ¬ (300 : Int) < n1 := by omega
      have e0 : (300 : Int) < n0 := by omega
      clear h0 h1 h2 hQ
      go_enter Tryd.func6, Tryd.ntmps6
      go_wp2_with (first
        | (go_at_call 15; (with_reducible refine (HA.out).mono ?_); rintro e w1 ⟨rfl, hb⟩; have HB1 := hidden hb; clear hb)
        | fail)
      go_ret
      exact ⟨rfl, HB1.out⟩
    · have e1 : (300 : Int) < n1 := by omega
      clear h0 h1 h2 hQ
      go_enter Tryd.func6, Tryd.ntmps6
      go_wp2_with (first
        | (go_at_call 15; (with_reducible refine (HA.out).mono ?_); rintro e w1 ⟨rfl, hb⟩; have HB1 := hidden hb; clear hb)
        | fail)
      go_ret
      exact ⟨rfl, HB1.out⟩
  obtain ⟨s1, s0⟩ := hs
  have e1 : ¬ (300 : Int) < n1 := by omega
  have e0 : ¬ (300 : Int) < n0 := by omega
  have H0 := hidden (fun W (hW : Below w.heap.size w W) => h0.below hW)
  have H1 := hidden (fun W (hW : Below w.heap.size w W) => h1.below hW)
  have H2 := hidden h2
  have HQ := hidden (fun W (hW : Below w.heap.size w W) => hQ.below hW hQ.lt)
  have HX1 := hidden h1.rng
  have HL1 := Is.mk h1.len
  clear h0 h1 h2 hQ
  go_enter Tryd.func6, Tryd.ntmps6
  go_upto_region 6 with (first
    | (go_at_call 15; (with_reducible refine (HA.out).mono ?_); rintro e w1 ⟨rfl, hb⟩; have HB1 := hidden hb; have HN := hidden (new_at w p2 n2 c2 xs2 w1 H2.out hb 60 (by omega) 60 rfl); clear hb)
    | (go_at_call 9; (with_reducible refine (HN.out).mono ?_); rintro e w2 ⟨rfl, hcod, hbel⟩; have HC := hidden hcod; have HB2 := hidden (HB1.out.trans (hbel.mono HB1.out.size)); clear hcod hbel HN)
    | fail)
  have hk := HC.out.lt
  have hkb := HC.out.base
  generalize w1.heap.size = k at *
  have HC1 := hidden (bytes_at w w2 k HC.out 32 (by omega) 32 rfl)
  go_upto_region 7 with (first
    | (go_at_call 16; (with_reducible refine (HC1.out).mono ?_); rintro e w3 ⟨kp, kc, ky, rfl, hb1, hc1, hg1⟩; have HK1 := hidden hb1; have HB3 := hidden (HB2.out.grown hg1 HB2.out.size (fun j e => by cases e; exact hkb)); have hs3 := hg1.size; have HC2 := hidden (bytes_at w w3 k hc1 12 (by omega) 12 rfl); clear hb1 hc1 hg1 HC1)
    | (go_at_call 16; (with_reducible refine (HC2.out).mono ?_); rintro e w4 ⟨np, nc, ny, rfl, hb2, hc2, hg2⟩; have HK2 := hidden (HK1.out.stay hg2 hk).byt; have HN2 := hidden hb2.byt; have HB4 := hidden (HB3.out.grown hg2 HB3.out.size (fun j e => by cases e; exact hkb)); clear hb2 hc2 hg2 HC2)
    | fail)
  have HK := hidden (fun W (hW : Below w4.heap.size w4 W) => HK2.out.below hW)
  have HNO := hidden (fun W (hW : Below w4.heap.size w4 W) => HN2.out.below hW)
  have HBw := hidden (fun W (hW : Below w4.heap.size w4 W) => HB4.out.trans (hW.mono HB4.out.size))
  have HSE := hidden (seal_to kp np p0 p1 32 kc 12 nc n0 c0 n1 c1 ky ny xs0 xs1 w4 HK2.out HN2.out (H0.out w4 HB4.out) (H1.out w4 HB4.out) (by omega) (by omega) (HQ.out w4 HB4.out))
  have hse : sealErr 32 12 = 0 := rfl
  have hsa : sealAny 32 12 ky ny xs0 xs1 = sealA ky ny xs0 xs1 := rfl
  have hsl := sealA_len ky ny xs0 xs1
  have hos := open_seal ky ny xs0 xs1 HX1.out
  rw [HL1.eq] at hsl
  rw [hse, hsa, hsl] at HSE
  have HOC : Hid (∀ (t : Nat), t < 16 → ∀ (x m : Int), 1 ≤ m ∧ m ≤ 255 → (sealA ky ny xs0 xs1).getD (n1 + t) 0 = x → openE ky ny xs0 ((sealA ky ny xs0 xs1).set (n1 + t) (bits .xor .u8 x m)) = 12) := by
    intro t ht x m hm hx
    rw [← HL1.eq] at hx ⊢
    exact open_changed ky ny xs0 xs1 t ht x m hm hx
  have hsr := sealA_rng ky ny xs0 xs1
  have HOP := hidden (fun q c Y W (hW : Below w4.heap.size w4 W) (hq : Byt W q (n1 + 16) c Y) => open_to kp np p0 q kc nc n0 c0 (n1 + 16) c ky ny xs0 Y W (HK.out W hW) (HNO.out W hW) (H0.out W (HBw.out W hW)) hq (by omega) (by omega) (HQ.out W (HBw.out W hW)))
  generalize sealA ky ny xs0 xs1 = S at *
  have HSL := Is.mk hsl
  have HSR := hidden hsr
  have HOS := hidden hos
  clear hsl hsr hos hse hsa HK2 HN2 HC HA
  have hw16 : IntKind.i64.wrap ((n1 : Int) + 16) = (n1 : Int) + 16 := by rw [IntKind.wrap_i64]; omega
  go_upto_region 9 with (first
    | (go_at_call 17; (with_reducible refine (HSE.out).mono ?_); rintro en w5 ⟨sp, sc, rfl, hs5, hb5⟩; have HS5 := hidden (fun W (hW : Below w5.heap.size w5 W) => hs5.below hW); have HB5 := hidden hb5; have hc5 := HOP.out sp sc S w5 hb5 hs5; rw [HOS.out.1, HOS.out.2, HL1.eq] at hc5; have HC5 := hidden hc5; clear hs5 hb5 hc5)
    | (go_at_call 22; (with_reducible refine (HC5.out).mono ?_); rintro en w6 ⟨op, oc, rfl, hs6, hb6⟩; have HO6 := hidden hs6; have HB6 := hidden (HB5.out.trans (hb6.mono HB5.out.size)); have HX6 := hidden hb6; have he6 := requal_any op p1 n1 oc n1 c1 xs1 xs1 w6 hs6 (H1.out w6 (HBw.out w6 HB6.out)); rw [decide_eq_true rfl] at he6; have HE6 := hidden he6; clear hs6 hb6 he6)
    | fail)
  have hlen : (((n1 + 16 : Nat) : Int) != (n1 : Int) + 16) = false := by simp
  go_upto_if 74 with (first
    | (go_at_call 21; (with_reducible refine (HE6.out).mono ?_); rintro e w7 ⟨rfl, r7, rfl⟩)
    | fail)
  have HB7 := hidden (HB6.out.trans ((drew_below ⟨r7, rfl⟩ : Below w6.heap.size w6 (w6.drewN r7)).mono HB6.out.size))
  have HX7 := hidden (HX6.out.trans ((drew_below ⟨r7, rfl⟩ : Below w6.heap.size w6 (w6.drewN r7)).mono HX6.out.size))
  generalize w6.drewN r7 = w7 at *
  go_cut [4] from 73 to 75 (fun a wx => ∃ m : Int, a = .int .u8 m ∧ 1 ≤ m ∧ m ≤ 255 ∧ w7 = wx)
  case first =>
    by_cases hz : z4 = 0
    · subst hz
      go_wp2
      go_meet
      case rel => exact ⟨1, rfl, by omega, by omega, rfl⟩
    · have hzt : (z4 == 0) = false := by simp [hz]
      go_wp2
      go_meet
      case rel => exact ⟨z4, rfl, by omega, by omega, rfl⟩
  case rest =>
    obtain ⟨m, rfl, hm1, hm2, rfl⟩ := hcut
    have HS7 := hidden (HS5.out w7 HX7.out)
    have hX5 : w5.heap.size ≤ w7.heap.size := HX7.out.size
    have hs7c := HS7.out.cap
    go_upto_region 14 with (first
      | (at_builtin; refine wpList_append_byt _ rfl _ _ 22 rfl w7.heap.size 5 i0 (.int .u8 0) Tryd.underlying22 hi hz0 hz1 hz2 rfl _ _ rfl (Own.nil _ _ _) _ _ _ _ _ rfl HS7.out rfl ?c2 ?c3 ?_)
      | fail)
    case c2 => simp; omega
    case c3 => exact Nat.le_refl _
    intro u8' w8 hown8 hg8
    have HB8 := hidden ((Below.refl w7.heap.size w7).grown hg8 (Nat.le_refl _) (nob _))
    obtain ⟨g, c8, rfl, hgb, hgl, hgc, hgf⟩ := hown8.at_ (n := n1 + 16) HSL.eq (by omega)
    obtain ⟨t, ht⟩ : ∃ t : Nat, z3 % 16 = (t : Int) := Int.eq_ofNat_of_zero_le (Int.emod_nonneg _ (by omega))
    have ht16 : t < 16 := by omega
    have htm : z3.tmod 16 = (t : Int) := by rw [Int.tmod_eq_emod_of_nonneg g3.1]; exact ht
    have hwt : IntKind.i64.wrap ((n1 : Int) + (t : Int)) = (n1 : Int) + (t : Int) := by rw [IntKind.wrap_i64]; omega
    have hc := hgc (n1 + t) (by omega)
    have hf := hgf (n1 + t)
    have b0 : (0 : Int) ≤ (n1 : Int) + (t : Int) := by omega
    have b1 : (n1 : Int) + (t : Int) < ((n1 + 16 : Nat) : Int) := by omega
    have b2 : ((n1 : Int) + (t : Int)).toNat = n1 + t := by omega
    obtain ⟨x, hx⟩ : ∃ x, S.getD (n1 + t) 0 = x := ⟨_, rfl⟩
    rw [hx] at hc
    have HXE := hidden (HOC.out t ht16 x m ⟨hm1, hm2⟩ hx)
    have hxx := xorb_rng x m
    have hown8' := hown8.set HSL.eq (n1 + t) (bits .xor .u8 x m)
    have hrs := rng_set HSR.out (n1 + t) hxx
    obtain ⟨pz, cz, ez, hy9⟩ := hown8'.bytN (N := n1 + 16) rfl (by rw [List.length_set]; exact HSL.eq) hrs
    cases ez
    have HB9 := hidden (HB7.out.trans ((HB8.out.setCell (p := ⟨g, n1 + t, none⟩) hgb (.int .u8 (bits .xor .u8 x m))).mono HB7.out.size))
    have b4 : (n1 : Int) + (t : Int) < (n1 : Int) + 16 := by omega
    have hb9 : Below w4.heap.size w4 (w8.setCell ⟨g, n1 + t, none⟩ (.int .u8 (bits .xor .u8 x m))) := HB5.out.trans ((HX7.out.trans ((HB8.out.setCell (p := ⟨g, n1 + t, none⟩) hgb (.int .u8 (bits .xor .u8 x m))).mono HX7.out.size)).mono HB5.out.size)
    have hc9 := HOP.out (some ⟨g, 0, none⟩) c8 _ _ hb9 hy9
    rw [HXE.out] at hc9
    have hl0 : openL ky ny xs0 (S.set (n1 + t) (bits .xor .u8 x m)) = [] := by unfold openL; rw [if_neg (by rw [HXE.out]; decide)]
    rw [hl0] at hc9
    have HC9 := hidden hc9
    clear hc9 hl0 hy9 hb9 hown8 hown8' hrs hx hgc hgf hg8
    go_wp2_with (first
      | (go_at_call 22; (with_reducible refine (HC9.out).mono ?_); rintro en w10 ⟨op2, oc2, rfl, hs10, hb10⟩; have HB10 := hidden (HB9.out.trans (hb10.mono HB9.out.size)); clear hs10 hb10)
      | fail)
    go_ret
    exact ⟨rfl, HBw.out w10 HB10.out⟩
end Go.Proofs.YtpocehpejbnemaaDoor
