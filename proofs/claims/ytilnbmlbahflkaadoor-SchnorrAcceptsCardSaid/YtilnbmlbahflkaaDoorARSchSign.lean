/-
  The document's Sign.
-/
import Derived.Test.YtilnbmlbahflkaaDoorASchSign
import Derived.Test.YtilnbmlbahflkaaDoorAZ4
namespace Go.Proofs.YtilnbmlbahflkaaDoor
open Go.RowKit
set_option linter.unusedVariables false

set_option maxHeartbeats 800000 in
set_option maxRecDepth 100000 in
theorem rgbytes_own (a : Nat) (ha : a < 18446744073709551616) (w : World) : Calls Tryd.prog 36 #[.int .u64 a] w (BytesNew w (gbytes a)) := by
  have HP := hidden (fun W => rput_yes none 0 0 [] W (Byt.nil _ _ _ (Nat.zero_le _)) (by omega) (a : Int) (by omega) 8 (by omega) (by omega))
  rw [List.nil_append, show be 8 (a : Int) = gbytes a from rfl, show ((8 : Nat) : Int) = 8 from rfl] at HP
  generalize gbytes a = R at *
  go_enter Tryd.func36, Tryd.ntmps36
  go_wp2_with (first
    | (go_at_call 63; (with_reducible refine (HP.out _).mono ?_); rintro en w2 ⟨v, rfl, ho, hb⟩; have HB := hidden hb; have HO := hidden ho; clear ho hb)
    | fail)
  go_ret
  exact ⟨_, rfl, HO.out, HB.out⟩

set_option maxHeartbeats 1600000 in
set_option maxRecDepth 100000 in
theorem rsignS_bod (x : Nat) (hx : x < 18446744073709551616) (p : Option Addr) (n c : Nat) (m : List Int) (w : World) (h : Byt w p n c m) (hn : n ≤ 100000) :
    Calls Tryd.prog 10 #[.int .u64 x, .slice p n c] w fun en w' => ∃ p' N c', en = .returned (.tuple #[.slice p' N c', .int .i64 (pubE x)]) ∧ Bod w' w.heap.size p' N c' (sigL x m) ∧ Below w.heap.size w w' := by
  have HP := hidden (rpub_any x hx w)
  unfold sigL
  cases hg : gsec x with
  | false =>
    have hE : pubE x = 13 := by unfold pubE; rw [if_neg (by rw [hg]; decide)]
    rw [if_neg (by decide), hE]
    rw [hE] at HP
    generalize ((pubV x : Nat) : Int) = y at *
    clear h hg hE
    go_enter Tryd.func10, Tryd.ntmps10
    go_wp2_with (first
      | (go_at_call 9; (with_reducible refine (HP.out).mono ?_); rintro en w2 ⟨rfl, hb⟩; have HB := hidden hb; clear hb)
      | fail)
    go_ret2
    exact ⟨none, 0, 0, rfl, Bod.nil _ _ _ _ (Nat.zero_le _), HB.out⟩
  | true =>
    obtain ⟨i0, hi, hz0, hz1, hz2⟩ := info_parts Tryd.infoByte
    have hE : pubE x = 0 := by unfold pubE; rw [if_pos hg]
    rw [if_pos rfl, hE]
    rw [hE] at HP
    have HM := hidden (fun W (hW : Below w.heap.size w W) => h.below hW)
    have hgb := gp_big
    have hqb := gq_big
    have HGB := hidden (fun W => rgbytes_any x hx W)
    have HL := Is.mk (gbytes_len x)
    have HHM := hidden (fun (q : Option Addr) (d : Nat) W (hW : Byt W q 8 d (gbytes x)) (hb : Below w.heap.size w W) => rhmac_any q p 8 d n c (gbytes x) m W hW (by omega) (HM.out W hb) (by omega))
    have HHL := Is.mk (hmacS_len (gbytes x) m)
    have HHR := hidden (hmacS_rng (gbytes x) m)
    have HKS : Is (1 + num8 (hmacS (gbytes x) m) % (gq - 1)) (kS x m) := ⟨rfl⟩
    have hes := eS_lt x m
    have hss := sS_lt x m
    have hks := kS_lt x m
    have hyl := pubV_lt x
    have hrl := gpow_lt 4 (kS x m)
    have HSS : Is ((kS x m + eS x m * x) % gq) (sS x m) := ⟨rfl⟩
    have HCH := hidden (fun W (hb : Below w.heap.size w W) => rchalS_any (gpow 4 (kS x m)) (pubV x) (by omega) (by omega) p n c m W (HM.out W hb) hn)
    have HCE : Is (chal (gpow 4 (kS x m)) (pubV x) m) (eS x m) := ⟨rfl⟩
    rw [HCE.eq] at HCH
    have HPW := hidden (fun W => rgpow_any 4 (kS x m) (by decide) (by omega) W)
    rw [cast4] at HPW
    have HAN := hidden (fun W => mulq_any (eS x m) x (by omega) hx W)
    have hsum : (((kS x m : Nat) : Int) + ((eS x m * x % gq : Nat) : Int)) % 2305843009213688669 = ((sS x m : Nat) : Int) := by
      rw [← HSS.eq, ← Nat.add_mod_mod]
      unfold gq
      omega
    have hb0 : eS x m * x % gq < gq := Nat.mod_lt _ gq_pos
    have HG1 := hidden (fun W => rgbytes_own (eS x m) (by omega) W)
    have HG2 := hidden (fun W => rgbytes_own (sS x m) (by omega) W)
    have HL1 := Is.mk (gbytes_len (eS x m))
    have HL2 := Is.mk (gbytes_len (sS x m))
    have HR2 := hidden (gbytes_rng (sS x m))
    have HR12 := hidden (rng_append (gbytes_rng (eS x m)) (gbytes_rng (sS x m)))
    have hgq : gq = 2305843009213688669 := rfl
    have hks2 : kS x m < 2305843009213688669 := by omega
    generalize gbytes (eS x m) = R1 at *
    generalize gbytes (sS x m) = R2 at *
    generalize gpow 4 (kS x m) = r at *
    generalize hmacS (gbytes x) m = D at *
    generalize gbytes x = A at *
    generalize eS x m * x % gq = ex at *
    have hb1 : ex < 2305843009213688669 := hb0
    generalize kS x m = k at *
    generalize eS x m = e at *
    generalize sS x m = s at *
    generalize pubV x = y at *
    have HNM := hidden (fun (q : Option Addr) (d : Nat) W (hW : Byt W q 32 d D) => firstS_any q 32 d D W hW (by omega))
    have hk1 := modq1_int (num8 D)
    have hkk : (1 : Int) + ((num8 D : Nat) : Int) % 2305843009213688668 = (k : Int) := by rw [hk1, ← HKS.eq]; omega
    have hV0 : (0 : Int) ≤ ((num8 D : Nat) : Int) := by omega
    have hV1 : ((num8 D : Nat) : Int) < 18446744073709551616 := by have := (num8_int D HHR.out).2; omega
    generalize ((num8 D : Nat) : Int) = V at *
    rw [← hsum] at HG2
    clear h hg hE hgb hqb hes hss hks hyl hrl hk1 HKS HSS HCE hsum hgq hb0
    go_enter Tryd.func10, Tryd.ntmps10
    go_upto_region 5 with (first
      | (go_at_call 9; (with_reducible refine (HP.out).mono ?_); rintro en w2 ⟨rfl, hb⟩; have HB2 := hidden hb; clear hb)
      | (go_at_call 36; (with_reducible refine (HGB.out _).mono ?_); rintro en w3 ⟨p1, N1, c1, rfl, hy1, hb1⟩; have hN1 := hy1.len; rw [HL.eq] at hN1; subst hN1; have HB3 := hidden (HB2.out.trans (hb1.mono HB2.out.size)); have HHX := hidden (HHM.out p1 c1 w3 hy1 HB3.out); clear hy1 hb1)
      | (go_at_call 35; (with_reducible refine (HHX.out).mono ?_); rintro en w4 ⟨v4, rfl, ho4, hb4⟩; obtain ⟨p4, c4, rfl, hy4⟩ := ho4.bytN rfl HHL.eq HHR.out; have HB4 := hidden (HB3.out.trans (hb4.mono HB3.out.size)); have HNX := hidden (HNM.out p4 c4 w4 hy4); clear ho4 hb4 hy4 HHX)
      | (go_at_call 34; (with_reducible refine (HNX.out).mono ?_); rintro en w5 ⟨rfl, rfl⟩)
      | fail)
    clear HNX HNM HHM hkk hV0 hV1 HGB
    go_upto_region 6 with (first
      | (go_at_call 33; (with_reducible refine (HPW.out _).mono ?_); rintro en w6 ⟨rfl, hb⟩; have HB6 := hidden (HB4.out.trans (hb.mono HB4.out.size)); have HCX := hidden (HCH.out w6 HB6.out); clear hb)
      | (go_at_call 37; (with_reducible refine (HCX.out).mono ?_); rintro en w7 ⟨rfl, hb⟩; have HB7 := hidden (HB6.out.trans (hb.mono HB6.out.size)); clear hb)
      | fail)
    go_upto_region 7 with (first
      | (go_at_call 38; (with_reducible refine (HAN.out _).mono ?_); rintro en w8 ⟨rfl, hb⟩; have HB8 := hidden (HB7.out.trans (hb.mono HB7.out.size)); clear hb)
      | fail)
    clear hb1 hks2
    go_wp2_with (first
      | (go_at_call 36; (with_reducible refine (HG1.out _).mono ?_); rintro en w9 ⟨v9, rfl, ho9, hb9⟩; have HO9 := hidden ho9; have HB9 := hidden (HB8.out.trans (hb9.mono HB8.out.size)); have hz9 := hb9.size; clear ho9 hb9 HG1)
      | (go_at_call 36; (with_reducible refine (HG2.out _).mono ?_); rintro en w10 ⟨v10, rfl, ho10, hb10⟩; obtain ⟨q10, c10, rfl, hy10⟩ := ho10.bytN rfl HL2.eq HR2.out; have HY10 := hidden hy10; have HO10 := hidden (HO9.out.below hb10); have HB10 := hidden (HB9.out.trans (hb10.mono HB9.out.size)); have hz10 := hb10.size; clear ho10 hb10 hy10 HG2)
      | (at_builtin; refine wpList_append_byt _ rfl _ _ 22 rfl _ 5 i0 (.int .u8 0) Tryd.underlying22 hi hz0 hz1 hz2 rfl _ _ rfl HO10.out _ _ _ _ _ rfl HY10.out rfl (by rw [HL1.eq]; omega) ?bb ?_; case bb => omega)
      | fail)
    intro v11 w11 ho11 hg11
    obtain ⟨q11, c11, rfl, hy11⟩ := ho11.bod rfl HR12.out
    have HY11 := hidden (hy11.mono HB8.out.size)
    have HB11 := hidden (HB10.out.grown hg11 HB10.out.size (fun k hk => by have h1 := (HO10.out.lt k hk).1; have h2 := HB8.out.size; omega))
    clear ho11 hg11 hy11
    go_wp2
    go_ret2
    exact ⟨_, _, _, rfl, HY11.out, HB11.out⟩
end Go.Proofs.YtilnbmlbahflkaaDoor
