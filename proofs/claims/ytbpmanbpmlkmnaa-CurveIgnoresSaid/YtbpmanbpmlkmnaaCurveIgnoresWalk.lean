/-
  The law CurveIgnores, walked: it returns true for every input, and only adds memory of its own.
-/
import Derived.Test.YtbpmanbpmlkmnaaCrvPub
import Derived.Test.YtbpmanbpmlkmnaaCodes2
import Derived.Test.YtbpmanbpmlkmnaaMkBytes
namespace Go.Proofs.Ytbpmanbpmlkmnaa
open Go.RowKit
set_option linter.unusedVariables false

theorem bytes32_ign (W w : World) (k : Nat) (h : Cod W w k) :
    Calls Try.prog 9 #[.pointer (some ⟨k, 0, none⟩), .int .i64 32] w fun e w' => ∃ p c ys, e = .returned (.slice p 32 c) ∧ Bod w' w.heap.size p 32 c ys ∧ Cod W w' k ∧ w.grownBy w' (some k) := mbytes_any W w k h 32 (by omega)
theorem xor_low (x z : Int) (hx : 0 ≤ x ∧ x ≤ 255) (hz : 0 ≤ z ∧ z ≤ 255) : 0 ≤ bits .xor .u8 x (z % 8) ∧ bits .xor .u8 x (z % 8) ≤ 255 ∧ bits .xor .u8 x (z % 8) - bits .xor .u8 x (z % 8) % 8 = x - x % 8 := by
  obtain ⟨x, rfl⟩ := Int.eq_ofNat_of_zero_le hx.1
  obtain ⟨y, hy⟩ := Int.eq_ofNat_of_zero_le (show 0 ≤ z % 8 by omega)
  rw [hy, u8_xor_nat x y (by omega) (by omega)]
  have hb : y < 8 := by omega
  have hlt : x ^^^ y < 2 ^ 8 := Nat.xor_lt_two_pow (by omega) (by omega)
  have hd : (x ^^^ y) / 8 = x / 8 := by
    have e := Nat.shiftRight_xor_distrib (a := x) (b := y) (i := 3)
    rw [Nat.shiftRight_eq_div_pow, Nat.shiftRight_eq_div_pow, Nat.shiftRight_eq_div_pow, Nat.div_eq_of_lt (show y < 2 ^ 3 by omega), Nat.xor_zero] at e
    exact e
  omega
theorem xor_hi (x : Int) (y i : Nat) (hy : y < 256) (h0 : y % 2 ^ i = 0) (hx : 0 ≤ x ∧ x ≤ 255) : 0 ≤ bits .xor .u8 x y ∧ bits .xor .u8 x y ≤ 255 ∧ bits .xor .u8 x y % 2 ^ i = x % 2 ^ i := by
  obtain ⟨x, rfl⟩ := Int.eq_ofNat_of_zero_le hx.1
  rw [u8_xor_nat x y (by omega) hy]
  have hlt : x ^^^ y < 2 ^ 8 := Nat.xor_lt_two_pow (by omega) (by omega)
  have hd : (x ^^^ y) % 2 ^ i = x % 2 ^ i := by rw [Nat.xor_mod_two_pow, h0, Nat.xor_zero]
  refine ⟨by omega, by omega, ?_⟩
  have e1 : (((x ^^^ y) % 2 ^ i : Nat) : Int) = ((x ^^^ y : Nat) : Int) % 2 ^ i := by simp
  have e2 : ((x % 2 ^ i : Nat) : Int) = ((x : Nat) : Int) % 2 ^ i := by simp
  rw [← e1, ← e2, hd]
theorem xor_high (x z : Int) (hx : 0 ≤ x ∧ x ≤ 255) (hz : 0 ≤ z ∧ z ≤ 255) : 0 ≤ bits .xor .u8 x (bits .and .u8 z 192) ∧ bits .xor .u8 x (bits .and .u8 z 192) ≤ 255 ∧ bits .xor .u8 x (bits .and .u8 z 192) % 64 = x % 64 := by
  obtain ⟨z, rfl⟩ := Int.eq_ofNat_of_zero_le hz.1
  have h7 := u8_and_nat z 192 (by omega) (by decide)
  rw [show ((192 : Nat) : Int) = 192 from rfl] at h7
  have hlz : z &&& 192 < 2 ^ 8 := Nat.and_lt_two_pow z (by omega)
  have h0 : (z &&& 192) % 2 ^ 6 = 0 := by rw [Nat.and_mod_two_pow, show 192 % 2 ^ 6 = 0 by decide, Nat.and_zero]
  rw [h7]
  exact xor_hi x (z &&& 192) 6 (by omega) h0 hx
theorem xor_top (x : Int) (hx : 0 ≤ x ∧ x ≤ 255) : 0 ≤ bits .xor .u8 x 128 ∧ bits .xor .u8 x 128 ≤ 255 ∧ bits .xor .u8 x 128 % 128 = x % 128 := xor_hi x 128 7 (by decide) (by decide) hx
theorem mulB_same (a b p q : List Int) (h1 : clampK b = clampK a) (h2 : uK q = uK p) : mulB b q = mulB a p := by unfold mulB; rw [h1, h2]
theorem own_far {w w' : World} {base : Nat} {e : TypeId} {v : Value} {xs : List Int} {row : Option Nat} (h : Own w base e v xs) (hg : w.grownBy w' row) (hne : v.ownBlock = none ∨ v.ownBlock ≠ row) : Own w' base e v xs := World.ownsRow.kept h hg hne
theorem grown_set1 (w : World) (k j : Nat) (v : Value) : w.grownBy (w.setCell ⟨k, j, none⟩ v) (some k) := grown_set w k j v
theorem clamp_eq (a : List Int) (hl : a.length = 32) (x y : Int) (hx : x - x % 8 = a.getD 0 0 - a.getD 0 0 % 8) (hy : y % 64 = a.getD 31 0 % 64) : clampK ((a.set 0 x).set 31 y) = clampK a := by
  unfold clampK
  have e0 : ((a.set 0 x).set 31 y).getD 0 0 = x := by simp [List.getD_eq_getElem?_getD, show 0 < a.length by omega]
  have e1 : ((a.set 0 x).set 31 y).getD 31 0 = y := by simp [List.getD_eq_getElem?_getD, show 31 < a.length by omega]
  rw [e0, e1, hx, hy]
  refine List.ext_getElem (by simp) fun i h1 h2 => ?_
  simp only [List.getElem_set]
  by_cases hi : 31 = i
  · simp only [if_pos hi]
  · by_cases hj : 0 = i
    · simp only [if_neg hi, if_pos hj]
    · simp only [if_neg hi, if_neg hj]
theorem uK_eq (p : List Int) (hl : p.length = 32) (y : Int) (hy : y % 128 = p.getD 31 0 % 128) : uK (p.set 31 y) = uK p := by
  unfold uK
  congr 1
  have h := num_set 256 p 31 (by omega) (y - p.getD 31 0)
  rw [show p.getD 31 0 + (y - p.getD 31 0) = y by omega] at h
  rw [h]
  obtain ⟨e, he⟩ : ∃ e, y - p.getD 31 0 = 128 * e := ⟨(y - p.getD 31 0) / 128, by omega⟩
  rw [he, show (256 : Int) ^ 31 * (128 * e) = 2 ^ 255 * e by rw [← Int.mul_assoc]; congr 1, Int.add_mul_emod_self_left]
theorem set_rng (a : List Int) (i : Nat) (x : Int) (h : ∀ y ∈ a, 0 ≤ y ∧ y ≤ 255) (hx : 0 ≤ x ∧ x ≤ 255) : ∀ y ∈ a.set i x, 0 ≤ y ∧ y ≤ 255 := fun y hy => by
  rcases List.mem_or_eq_of_mem_set hy with h1 | rfl
  · exact h y h1
  · exact hx

set_option maxHeartbeats 3200000 in
set_option maxRecDepth 100000 in
theorem curveIgnores_walk (p0 : Option Addr) (n0 c0 : Nat) (xs0 : List Int) (z1 z2 : Int) (t3 : Bool) (w : World) (h0 : Byt w p0 n0 c0 xs0) (r0 : c0 ≤ 140737488351232) (g1 : 0 ≤ z1 ∧ z1 ≤ 255) (g2 : 0 ≤ z2 ∧ z2 ≤ 255) :
    Calls Try.prog 5 #[.slice p0 n0 c0, .int .u8 z1, .int .u8 z2, .bool t3] w fun e w' => e = .returned (.bool true) ∧ Below w.heap.size w w' := by
  obtain ⟨i0, hi, hz0, hz1, hz2⟩ := info_parts Try.infoByte
  have HA := hidden (awake14_any w)
  have H0 := hidden h0
  clear h0
  go_enter Try.func5, Try.ntmps5
  go_upto_region 4 with (first
    | (go_at_call 7; (with_reducible refine (HA.out).mono ?_); rintro e w1 ⟨rfl, hb⟩; have HB1 := hidden hb; clear hb)
    | (go_at_call 8; (refine (new_any w p0 n0 c0 xs0 w1 H0.out HB1.out 100 (by omega)).mono ?_); rintro e w2 ⟨rfl, hcod, hbel⟩; have HC := hidden hcod; have HB2 := hidden (HB1.out.trans (hbel.mono HB1.out.size)); clear hcod hbel)
    | fail)
  have hk := HC.out.lt
  have hkb := HC.out.base
  generalize w1.heap.size = k at *
  go_upto_region 5 with (first
    | (go_at_call 9; (with_reducible refine (bytes32_ign w w2 k HC.out).mono ?_); rintro e w3 ⟨p1, c1, a, rfl, hb1, hc1, hg1⟩; have HK1 := hidden hb1; have HC1 := hidden hc1; have HB3 := hidden (HB2.out.grown hg1 HB2.out.size (fun j e => by cases e; exact hkb)); have hs3 := hg1.size; clear hb1 hc1 hg1)
    | (go_at_call 9; (with_reducible refine (bytes32_ign w w3 k HC1.out).mono ?_); rintro e w4 ⟨p2, c2, p, rfl, hb2, hc2, hg2⟩; have HKP := hidden hb2.byt; have HKA := hidden ((HK1.out.grown hg2 (fun r hr => Or.inl (by cases hr; exact hk))).byt); have HB4 := hidden (HB3.out.grown hg2 HB3.out.size (fun j e => by cases e; exact hkb)); clear hb2 hc2 hg2)
    | fail)
  have HLA := Is.mk HKA.out.len
  have HLP := Is.mk HKP.out.len
  have HRA := hidden HKA.out.rng
  have HRP := hidden HKP.out.rng
  clear HK1 HC HC1 HB1 HB2 HB3 HA H0 hkb hk hs3
  go_upto_region 6 with (first
    | (at_builtin; refine wpList_append_byt _ rfl _ _ 22 rfl w4.heap.size 5 i0 (.int .u8 0) Try.underlying22 hi hz0 hz1 hz2 rfl _ _ rfl (Own.nil _ _ _) _ _ _ _ _ rfl HKA.out rfl (by simp) (Nat.le_refl _) ?_; intro v5 w5 ho5 hg5; have HO5 := hidden ho5; have HB5 := hidden ((Below.refl w4.heap.size w4).grown hg5 (Nat.le_refl _) (fun k hk => by cases hk)); clear ho5 hg5)
    | (at_builtin; refine wpList_append_byt _ rfl _ _ 22 rfl w5.heap.size 5 i0 (.int .u8 0) Try.underlying22 hi hz0 hz1 hz2 rfl _ _ rfl (Own.nil _ _ _) _ _ _ _ _ rfl (HKP.out.below HB5.out) rfl (by simp) (Nat.le_refl _) ?_; intro v6 w6 ho6 hg6; have HO6 := hidden ho6; have HG6 := hidden ((Below.refl w5.heap.size w5).grown hg6 (Nat.le_refl _) (fun k hk => by cases hk)); clear ho6 hg6)
    | fail)
  rw [List.nil_append] at HO5 HO6
  obtain ⟨gb, cb, rfl, hgb0, hgb1, hcb, hfb⟩ := HO5.out.at_ HLA.eq (by omega)
  obtain ⟨gq, cq, rfl, hgq0, hgq1, hcq, hfq⟩ := HO6.out.at_ HLP.eq (by omega)
  have hne : gb ≠ gq := by omega
  have HNE := hidden hne
  have HOB := hidden (HO5.out.below HG6.out)
  have HOQ := hidden (HO6.out.mono (show w4.heap.size ≤ w5.heap.size from HB5.out.size))
  have HB6 := hidden (HB5.out.trans (HG6.out.mono HB5.out.size))
  have HQ0 : Hid (w4.heap.size ≤ gq) := hidden (Nat.le_trans HB5.out.size hgq0)
  have HGB := hidden hgb0
  clear hcb hfb hcq hfq hgq0 hgq1 hgb0 hgb1 hne HO5 HO6 HG6 HB5 hi hz0 hz1 hz2
  -- the scalar's two bytes
  obtain ⟨gb', cb', ev, -, hgl, hcb, hfb⟩ := HOB.out.at_ HLA.eq (by omega)
  obtain ⟨rfl, rfl⟩ : gb = gb' ∧ cb = cb' := by simp at ev; omega
  have hra0 := HRA.out (a.getD 0 0) (by rw [List.getD_eq_getElem?_getD]; simp [show 0 < a.length by rw [HLA.eq]; omega])
  have hra31 := HRA.out (a.getD 31 0) (by rw [List.getD_eq_getElem?_getD]; simp [show 31 < a.length by rw [HLA.eq]; omega])
  have hrp31 := HRP.out (p.getD 31 0) (by rw [List.getD_eq_getElem?_getD]; simp [show 31 < p.length by rw [HLP.eq]; omega])
  have c0 := hcb 0 (by omega)
  have c31 := hcb 31 (by omega)
  have f0 := hfb 0
  have f31 := hfb 31
  obtain ⟨x1, x2, x3⟩ := xor_low (a.getD 0 0) z1 hra0 g1
  obtain ⟨y1, y2, y3⟩ := xor_high (a.getD 31 0) z2 hra31 g2
  obtain ⟨u1, u2, u3⟩ := xor_top (p.getD 31 0) hrp31
  have HCE := Is.mk (clamp_eq a HLA.eq _ _ x3 y3)
  have HUE := Is.mk (uK_eq p HLP.eq _ u3)
  have HRB := hidden (set_rng _ 31 _ (set_rng a 0 _ HRA.out ⟨x1, x2⟩) ⟨y1, y2⟩)
  have HRQ := hidden (set_rng p 31 _ HRP.out ⟨u1, u2⟩)
  generalize hX : bits .xor .u8 (a.getD 0 0) (z1 % 8) = X at *
  generalize hY : bits .xor .u8 (a.getD 31 0) (bits .and .u8 z2 192) = Y at *
  generalize hU : bits .xor .u8 (p.getD 31 0) 128 = U at *
  obtain ⟨a0, ha0⟩ : ∃ x, a.getD 0 0 = x := ⟨_, rfl⟩
  obtain ⟨a31, ha31⟩ : ∃ x, a.getD 31 0 = x := ⟨_, rfl⟩
  obtain ⟨p31, hp31⟩ : ∃ x, p.getD 31 0 = x := ⟨_, rfl⟩
  rw [ha0] at c0 hX
  rw [ha31] at c31 hY
  rw [hp31] at hU
  have HPC := Is.mk hp31
  have HUU := Is.mk hU
  have ho7 := HOB.out.set HLA.eq 0 X
  have ho8 := ho7.set (by rw [List.length_set]; exact HLA.eq) 31 Y
  have HOB8 := hidden ho8
  clear hcb hfb
  have c31' : (w6.setCell ⟨gb, 0, none⟩ (.int .u8 X)).cell? ⟨gb, 31, none⟩ = some (.int .u8 a31) := by go_simp
  have f31' : (w6.setCell ⟨gb, 0, none⟩ (.int .u8 X)).frozen? ⟨gb, 31, none⟩ = false := by go_simp
  have HOQ8 := hidden (own_far (own_far HOQ.out (grown_set1 w6 gb 0 (.int .u8 X)) (Or.inr (by intro e; cases e; exact HNE.out rfl))) (grown_set1 _ gb 31 (.int .u8 Y)) (Or.inr (by intro e; cases e; exact HNE.out rfl)))
  have HB8 := hidden ((HB6.out.setCell (p := ⟨gb, 0, none⟩) HGB.out (.int .u8 X)).setCell (p := ⟨gb, 31, none⟩) HGB.out (.int .u8 Y))
  clear ho7 ho8 hra0 hra31 hrp31 x1 x2 x3 y1 y2 y3 u1 u2 u3 ha0 ha31 hp31 hU ev HOB HOQ HB6 hgl
  go_upto_region 7 with fail
  clear c0 f0 c31 f31 hX
  go_upto_region 8 with fail
  clear c31' f31' hY
  generalize World.setCell (World.setCell w6 _ _) _ _ = w8 at *
  generalize hbb : (a.set 0 X).set 31 Y = b at *
  have HLB : Is b.length 32 := ⟨by rw [← hbb, List.length_set, List.length_set]; exact HLA.eq⟩
  clear hbb
  have HBW : Hid (w4.heap.size ≤ w8.heap.size) := hidden HB8.out.size
  cases t3 with
  | true =>
    obtain ⟨gq', cq', ev, -, hgl, hcq, hfq⟩ := HOQ8.out.at_ HLP.eq (by omega)
    obtain ⟨rfl, rfl⟩ : gq = gq' ∧ cq = cq' := by simp at ev; omega
    have c0 := hcq 31 (by omega)
    rw [HPC.eq] at c0
    have f0 := hfq 31
    have hUU := HUU.eq
    have HOQ9 := hidden (HOQ8.out.set HLP.eq 31 U)
    have HOB9 := hidden (own_far HOB8.out (grown_set1 w8 gq 31 (.int .u8 U)) (Or.inr (by intro e; cases e; exact HNE.out rfl)))
    have HBX := hidden (HB8.out.setCell (p := ⟨gq, 31, none⟩) HQ0.out (.int .u8 U))
    have HLQ : Is (p.set 31 U).length 32 := ⟨by rw [List.length_set]; exact HLP.eq⟩
    clear hcq hfq ev hgl HOQ8 HOB8 HB8 HBW
    go_upto_region 10 with fail
    clear c0 f0 hUU
    generalize p.set 31 U = q at *
    generalize World.setCell w8 _ _ = w9 at *
    have HKA9 := hidden (HKA.out.below HBX.out)
    have HKP9 := hidden (HKP.out.below HBX.out)
    have HBW9 := hidden (HB4.out.trans (HBX.out.mono HB4.out.size))
    obtain ⟨pb, cb', eb, hyb⟩ := HOB9.out.bytN rfl HLB.eq HRB.out
    obtain ⟨rfl, rfl⟩ : some (⟨gb, 0, none⟩ : Addr) = pb ∧ cb = cb' := by simp at eb; exact ⟨eb.1, eb.2⟩
    obtain ⟨pq, cq', eq, hyq⟩ := HOQ9.out.bytN rfl HLQ.eq HRQ.out
    obtain ⟨rfl, rfl⟩ : some (⟨gq, 0, none⟩ : Addr) = pq ∧ cq = cq' := by simp at eq; exact ⟨eq.1, eq.2⟩
    have HYB := hidden hyb
    have HYQ := hidden hyq
    have hm := mulB_same a b p q HCE.eq HUE.eq
    have HM1 := hidden (mult_any p1 p2 c1 c2 a p w9 HKA9.out HKP9.out)
    have HM2 := hidden (fun W (hW : Below w9.heap.size w9 W) => mult_any (some ⟨gb, 0, none⟩) (some ⟨gq, 0, none⟩) cb cq b q W (HYB.out.below hW) (HYQ.out.below hW))
    rw [hm] at HM2
    have HLM := Is.mk (mulB_len a p)
    have HRM := hidden (mulB_rng a p)
    generalize mulB a p = M at *
    have HE := hidden (fun W x y (hx : Wb W x 5 M) (hy : Wb W y 5 M) => requal_any (some ⟨x, 0, none⟩) (some ⟨y, 0, none⟩) 32 32 32 32 _ _ W (hx.byt32 HLM.eq HRM.out) (hy.byt32 HLM.eq HRM.out))
    have hd1 : decide (M = M) = true := decide_eq_true rfl
    rw [hd1] at HE
    clear hyb hyq eb eq hm hd1 HOB9 HOQ9 HKA9 HKP9 HKA HKP
    go_upto_region 11 with (first
      | (go_at_call 10; (with_reducible refine (HM1.out).mono ?_); rintro e v1 ⟨x, rfl, hx, hw, hb⟩; have HX := hidden hw; have HV1 := hidden hb; clear hw hb hx)
      | fail)
    go_upto_region 12 with (first
      | (go_at_call 10; (with_reducible refine (HM2.out _ HV1.out).mono ?_); rintro e v2 ⟨y, rfl, hy, hw, hb⟩; have HY2 := hidden hw; have HX2 := hidden (HX.out.below hb); have HV2 := hidden (HBW9.out.trans ((HV1.out.trans (hb.mono HV1.out.size)).mono HBW9.out.size)); clear hw hb hy)
      | fail)
    go_wp2_with (first
      | (go_at_call 12; (with_reducible refine (HE.out _ x y HX2.out HY2.out).mono ?_); rintro e v3 ⟨rfl, r9, rfl⟩)
      | fail)
    go_ret
    exact ⟨rfl, HV2.out.trans (below_drewN _)⟩
  | false =>
    have HOQ9 := HOQ8
    have HOB9 := HOB8
    have HBX := HB8
    clear HOQ8 HOB8 HB8 HBW
    go_upto_region 10 with fail
    have HKA9 := hidden (HKA.out.below HBX.out)
    have HKP9 := hidden (HKP.out.below HBX.out)
    have HBW9 := hidden (HB4.out.trans (HBX.out.mono HB4.out.size))
    obtain ⟨pb, cb', eb, hyb⟩ := HOB9.out.bytN rfl HLB.eq HRB.out
    obtain ⟨rfl, rfl⟩ : some (⟨gb, 0, none⟩ : Addr) = pb ∧ cb = cb' := by simp at eb; exact ⟨eb.1, eb.2⟩
    obtain ⟨pq, cq', eq, hyq⟩ := HOQ9.out.bytN rfl HLP.eq HRP.out
    obtain ⟨rfl, rfl⟩ : some (⟨gq, 0, none⟩ : Addr) = pq ∧ cq = cq' := by simp at eq; exact ⟨eq.1, eq.2⟩
    have HYB := hidden hyb
    have HYQ := hidden hyq
    have hm := mulB_same a b p p HCE.eq rfl
    have HM1 := hidden (mult_any p1 p2 c1 c2 a p w8 HKA9.out HKP9.out)
    have HM2 := hidden (fun W (hW : Below w8.heap.size w8 W) => mult_any (some ⟨gb, 0, none⟩) (some ⟨gq, 0, none⟩) cb cq b p W (HYB.out.below hW) (HYQ.out.below hW))
    rw [hm] at HM2
    have HLM := Is.mk (mulB_len a p)
    have HRM := hidden (mulB_rng a p)
    generalize mulB a p = M at *
    have HE := hidden (fun W x y (hx : Wb W x 5 M) (hy : Wb W y 5 M) => requal_any (some ⟨x, 0, none⟩) (some ⟨y, 0, none⟩) 32 32 32 32 _ _ W (hx.byt32 HLM.eq HRM.out) (hy.byt32 HLM.eq HRM.out))
    have hd1 : decide (M = M) = true := decide_eq_true rfl
    rw [hd1] at HE
    clear hyb hyq eb eq hm hd1 HOB9 HOQ9 HKA9 HKP9 HKA HKP
    go_upto_region 11 with (first
      | (go_at_call 10; (with_reducible refine (HM1.out).mono ?_); rintro e v1 ⟨x, rfl, hx, hw, hb⟩; have HX := hidden hw; have HV1 := hidden hb; clear hw hb hx)
      | fail)
    go_upto_region 12 with (first
      | (go_at_call 10; (with_reducible refine (HM2.out _ HV1.out).mono ?_); rintro e v2 ⟨y, rfl, hy, hw, hb⟩; have HY2 := hidden hw; have HX2 := hidden (HX.out.below hb); have HV2 := hidden (HBW9.out.trans ((HV1.out.trans (hb.mono HV1.out.size)).mono HBW9.out.size)); clear hw hb hy)
      | fail)
    go_wp2_with (first
      | (go_at_call 12; (with_reducible refine (HE.out _ x y HX2.out HY2.out).mono ?_); rintro e v3 ⟨rfl, r9, rfl⟩)
      | fail)
    go_ret
    exact ⟨rfl, HV2.out.trans (below_drewN _)⟩
end Go.Proofs.Ytbpmanbpmlkmnaa
