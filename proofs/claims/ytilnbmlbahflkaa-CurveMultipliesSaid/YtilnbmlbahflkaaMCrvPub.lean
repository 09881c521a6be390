/-
  curve.Public and curve.Shared; what the law's awake returns.
-/
import Derived.Test.YtilnbmlbahflkaaMCrvMult
import Derived.Test.YtilnbmlbahflkaaMZ2
import Derived.Test.YtilnbmlbahflkaaMZ3
import Derived.Test.YtilnbmlbahflkaaMZ1
import Derived.Deep.RegionHeld3
import Derived.Deep.Cut
import Derived.Deep.CutRange
namespace Go.Proofs.Ytilnbmlbahflkaa
open Go.RowKit
set_option linter.unusedVariables false

theorem zeros_set9 : (List.replicate 32 (0 : Int)).set 0 9 = base9 := by decide
theorem zeros_set77 : (List.replicate 32 (0 : Int)).set 5 77 = scal77 := by decide
theorem base9_rng : ∀ x ∈ base9, 0 ≤ x ∧ x ≤ 255 := by decide
theorem scal77_rng : ∀ x ∈ scal77, 0 ≤ x ∧ x ≤ 255 := by decide
theorem zeros_rng (n : Nat) : ∀ x ∈ List.replicate n (0 : Int), 0 ≤ x ∧ x ≤ 255 := fun x hx => by
  have := List.eq_of_mem_replicate hx
  omega
theorem Wb.drewN {w : World} {g : Nat} {t : TypeId} {l : List Int} (h : Wb w g t l) (r : Nat) : Wb (w.drewN r) g t l := ⟨h.heap⟩
theorem Wb.byt32 {w : World} {g : Nat} {t : TypeId} {l : List Int} (h : Wb w g t l) (hl : l.length = 32) (hr : ∀ x ∈ l, 0 ≤ x ∧ x ≤ 255) : Byt w (some ⟨g, 0, none⟩) 32 32 l := h.byt 32 hl (by unfold maxLen; omega) hr

set_option maxHeartbeats 800000 in
set_option maxRecDepth 100000 in
theorem public_any (p : Option Addr) (c : Nat) (s : List Int) (w : World) (hs : Byt w p 32 c s) :
    Calls Try.prog 12 #[.slice p 32 c] w fun e w' => ∃ g, e = .returned (.tuple #[.slice (some ⟨g, 0, none⟩) 32 32, .int .i64 0]) ∧ w.heap.size ≤ g ∧ Wb w' g 5 (mulB s base9) ∧ Below w.heap.size w w' := by
  obtain ⟨i0, hi, hz0, hz1, hz2⟩ := info_parts Try.infoByte
  obtain ⟨Z1, HZ1, hmk⟩ := make_eq (P := Try.prog) 22 5 i0 Try.underlying22 hi hz0 hz1 hz2 32 (by omega)
  have hmk1 : ∀ w : World, (Instr.makeSlice 22 (.int .i64 32) (.int .i64 32)).run Try.prog w = .ok (.slice (some ⟨w.heap.size, 0, none⟩) 32 32) (w.alloc (.cells Z1 5)) := hmk
  have HS := hidden (fun W (hW : Below w.heap.size w W) => hs.below hW)
  clear hi hz0 hz1 hz2 hmk hs
  go_enter Try.func12, Try.ntmps12
  go_upto_region 2 with fail
  generalize hw1 : World.alloc _ (.cells Z1 5) = w1
  obtain ⟨n, hn⟩ : ∃ n, w.heap.size = n := ⟨_, rfl⟩
  have hO : Wb w1 n 5 (List.replicate 32 0) := by
    rw [← hw1, ← hn]
    exact Wb.new w 5 (List.replicate 32 0) Z1 HZ1.out
  have hb : Below n w w1 := by
    rw [← hw1, ← hn]
    exact (Below.refl _ w).alloc (Nat.le_refl _) _
  clear hw1 hmk1
  simp only [hn] at HS ⊢
  have HN := Is.mk hn
  have c0 := hO.cell 0 (by simp)
  have f0 := hO.fr 0
  have ho2 := hO.set 0 9
  rw [zeros_set9] at ho2
  have HO2 := hidden ho2
  have HB2 := hidden (hb.setCell (p := ⟨n, 0, none⟩) (Nat.le_refl _) (.int .u8 9))
  clear hO hb ho2 hn
  go_upto_region 3 with fail
  clear c0 f0
  generalize World.setCell w1 _ _ = w2 at *
  have HM := hidden (mult_any p (some ⟨n, 0, none⟩) c 32 s base9 w2 (HS.out w2 HB2.out) (HO2.out.byt32 rfl base9_rng))
  have HWN : Hid (n ≤ w2.heap.size) := hidden (Nat.le_of_lt HO2.out.lt)
  go_wp2_with (first
    | (go_at_call 7; (with_reducible refine (HM.out).mono ?_); rintro e3 w3 ⟨g, rfl, hg, hw, hb3⟩; have HW := hidden hw; have HG := hidden (Nat.le_trans HWN.out hg); have HB3 := hidden (HB2.out.trans (hb3.mono HWN.out)); clear hw hb3 hg)
    | fail)
  go_ret2
  exact ⟨g, rfl, by rw [HN.eq]; exact HG.out, HW.out, by rw [HN.eq]; exact HB3.out⟩

set_option maxHeartbeats 800000 in
set_option maxRecDepth 100000 in
/-- Shared, where the product is 0. -/
theorem shared_zero (p q : Option Addr) (c d : Nat) (s t : List Int) (w : World) (hs : Byt w p 32 c s) (ht : Byt w q 32 d t) (hz : mulB s t = List.replicate 32 0) :
    Calls Try.prog 10 #[.slice p 32 c, .slice q 32 d] w fun e w' => e = .returned (.tuple #[.slice none 0 0, .int .i64 13]) ∧ Below w.heap.size w w' := by
  have HM := hidden (mult_any p q c d s t w hs ht)
  have HL := Is.mk (mulB_len s t)
  have HR := hidden (mulB_rng s t)
  generalize mulB s t = m at *
  have hd : decide (m = List.replicate 32 0) = true := decide_eq_true hz
  have HZ := hidden (fun (g : Nat) (W : World) (hw : Wb W g 5 m) => isZero_any (some ⟨g, 0, none⟩) 32 32 m W (hw.byt32 HL.eq HR.out) (by omega))
  rw [hd] at HZ
  clear hs ht hz hd
  go_enter Try.func10, Try.ntmps10
  go_wp2_with (first
    | (go_at_call 7; (with_reducible refine (HM.out).mono ?_); rintro e3 w3 ⟨g, rfl, hg, hw, hb3⟩; have HW := hidden hw; have HB3 := hidden hb3; clear hw hb3 hg)
    | (go_at_call 30; (with_reducible refine (HZ.out g _ HW.out).mono ?_); rintro e4 w4 ⟨rfl, rfl⟩)
    | fail)
  go_ret2
  exact ⟨rfl, HB3.out⟩
set_option maxHeartbeats 800000 in
set_option maxRecDepth 100000 in
/-- Shared, where the product is not 0. -/
theorem shared_some (p q : Option Addr) (c d : Nat) (s t : List Int) (w : World) (hs : Byt w p 32 c s) (ht : Byt w q 32 d t) (hz : mulB s t ≠ List.replicate 32 0) :
    Calls Try.prog 10 #[.slice p 32 c, .slice q 32 d] w fun e w' => ∃ g, e = .returned (.tuple #[.slice (some ⟨g, 0, none⟩) 32 32, .int .i64 0]) ∧ w.heap.size ≤ g ∧ Wb w' g 5 (mulB s t) ∧ Below w.heap.size w w' := by
  have HM := hidden (mult_any p q c d s t w hs ht)
  have HL := Is.mk (mulB_len s t)
  have HR := hidden (mulB_rng s t)
  generalize mulB s t = m at *
  have hd : decide (m = List.replicate 32 0) = false := decide_eq_false hz
  have HZ := hidden (fun (g : Nat) (W : World) (hw : Wb W g 5 m) => isZero_any (some ⟨g, 0, none⟩) 32 32 m W (hw.byt32 HL.eq HR.out) (by omega))
  rw [hd] at HZ
  clear hs ht hz hd
  go_enter Try.func10, Try.ntmps10
  go_wp2_with (first
    | (go_at_call 7; (with_reducible refine (HM.out).mono ?_); rintro e3 w3 ⟨g, rfl, hg, hw, hb3⟩; have HW := hidden hw; have HB3 := hidden hb3; have HG := hidden hg; clear hw hb3 hg)
    | (go_at_call 30; (with_reducible refine (HZ.out g _ HW.out).mono ?_); rintro e4 w4 ⟨rfl, rfl⟩)
    | fail)
  go_ret2
  exact ⟨g, rfl, HG.out, HW.out, HB3.out⟩

set_option maxHeartbeats 3200000 in
set_option maxRecDepth 100000 in
theorem awake14_any (w : World) : Calls Try.prog 4 #[] w fun e w' => e = .returned (.bool true) ∧ Below w.heap.size w w' := by
  obtain ⟨i0, hi, hz0, hz1, hz2⟩ := info_parts Try.infoByte
  obtain ⟨Z1, HZ1, hmk⟩ := make_eq (P := Try.prog) 22 5 i0 Try.underlying22 hi hz0 hz1 hz2 32 (by omega)
  have hmk1 : ∀ w : World, (Instr.makeSlice 22 (.int .i64 32) (.int .i64 32)).run Try.prog w = .ok (.slice (some ⟨w.heap.size, 0, none⟩) 32 32) (w.alloc (.cells Z1 5)) := hmk
  have HMK := hidden hmk1
  clear hi hz0 hz1 hz2 hmk
  go_enter Try.func4, Try.ntmps4
  go_upto_region 2 with fail
  generalize hw1 : World.alloc _ (.cells Z1 5) = w1
  obtain ⟨n, hn⟩ : ∃ n, w.heap.size = n := ⟨_, rfl⟩
  have hO : Wb w1 n 5 (List.replicate 32 0) := by
    rw [← hw1, ← hn]
    exact Wb.new w 5 (List.replicate 32 0) Z1 HZ1.out
  have hb : Below n w w1 := by
    rw [← hw1, ← hn]
    exact (Below.refl _ w).alloc (Nat.le_refl _) _
  clear hw1
  simp only [hn]
  have HN := Is.mk hn
  have c0 := hO.cell 5 (by simp)
  have f0 := hO.fr 5
  have ho2 := hO.set 5 77
  rw [zeros_set77] at ho2
  have HO2 := hidden ho2
  have HB2 := hidden (hb.setCell (p := ⟨n, 5, none⟩) (Nat.le_refl _) (.int .u8 77))
  clear hO hb ho2 hn
  go_upto_region 3 with fail
  clear c0 f0
  generalize World.setCell w1 _ _ = w2 at *
  have HWN : Hid (n < w2.heap.size) := hidden HO2.out.lt
  have HZA := hidden (fun W => Wb.new W 5 (List.replicate 32 0) Z1 HZ1.out)
  have HM := hidden (fun W (hW : Below w2.heap.size w2 W) q (hq : Wb W q 5 (List.replicate 32 0)) => mult_any (some ⟨n, 0, none⟩) (some ⟨q, 0, none⟩) 32 32 scal77 (List.replicate 32 0) W ((HO2.out.below hW).byt32 rfl scal77_rng) (hq.byt32 (by simp) (zeros_rng 32)))
  rw [small_zero scal77 rfl] at HM
  have HS := hidden (fun W (hW : Below w2.heap.size w2 W) q (hq : Wb W q 5 (List.replicate 32 0)) => shared_zero (some ⟨n, 0, none⟩) (some ⟨q, 0, none⟩) 32 32 scal77 (List.replicate 32 0) W ((HO2.out.below hW).byt32 rfl scal77_rng) (hq.byt32 (by simp) (zeros_rng 32)) (small_zero scal77 rfl))
  have HP := hidden (fun W (hW : Below w2.heap.size w2 W) => public_any (some ⟨n, 0, none⟩) 32 scal77 W ((HO2.out.below hW).byt32 rfl scal77_rng))
  have HPL := Is.mk (mulB_len scal77 base9)
  have HPR := hidden (mulB_rng scal77 base9)
  have hne := pub_ne
  generalize mulB scal77 base9 = PB at *
  have hd1 : decide ((List.replicate 32 (0 : Int)) = List.replicate 32 0) = true := decide_eq_true rfl
  have hd2 : decide (PB = List.replicate 32 0) = false := decide_eq_false hne
  have HE1 := hidden (fun W a b (ha : Wb W a 5 (List.replicate 32 0)) (hb : Wb W b 5 (List.replicate 32 0)) => requal_any (some ⟨a, 0, none⟩) (some ⟨b, 0, none⟩) 32 32 32 32 _ _ W (ha.byt32 (by simp) (zeros_rng 32)) (hb.byt32 (by simp) (zeros_rng 32)))
  have HE2 := hidden (fun W a b (ha : Wb W a 5 PB) (hb : Wb W b 5 (List.replicate 32 0)) => requal_any (some ⟨a, 0, none⟩) (some ⟨b, 0, none⟩) 32 32 32 32 _ _ W (ha.byt32 HPL.eq HPR.out) (hb.byt32 (by simp) (zeros_rng 32)))
  rw [hd1] at HE1
  rw [hd2] at HE2
  clear hne hd1 hd2
  have hmk2 := HMK.out
  go_upto_region 4 with (first
    | (go_at_call 7; (with_reducible refine (HM.out _ ((Below.refl _ w2).alloc (Nat.le_refl _) _) _ (HZA.out w2)).mono ?_); rintro e3 w3 ⟨g, rfl, hg, hw, hb3⟩; have HW3 := hidden hw; have HB3 := hidden (((Below.refl _ w2).alloc (Nat.le_refl _) _).trans (hb3.mono (by simp))); clear hw hb3 hg)
    | fail)
  go_upto_region 5 with (first
    | (go_at_call 10; (with_reducible refine (HS.out _ (HB3.out.alloc HB3.out.size _) _ (HZA.out w3)).mono ?_); rintro e4 w4 ⟨rfl, hb4⟩; have HW4 := hidden ((HW3.out.alloc _).below hb4); have HB4 := hidden ((HB3.out.alloc HB3.out.size _).trans (hb4.mono (by have := HB3.out.size; simp; omega))); clear hb4)
    | fail)
  go_upto_region 6 with (first
    | (go_at_call 12; (with_reducible refine (HP.out _ HB4.out).mono ?_); rintro e5 w5 ⟨h, rfl, hh, hw5, hb5⟩; have HW5 := hidden (HW4.out.below hb5); have HP5 := hidden hw5; have HB5 := hidden (HB4.out.trans (hb5.mono HB4.out.size)); clear hw5 hb5 hh)
    | fail)
  have HB6 : Hid (Below n w w5) := hidden (HB2.out.trans (HB5.out.mono (Nat.le_of_lt HWN.out)))
  clear HM HS HP
  go_wp2_with (first
    | (go_at_call 9; (with_reducible refine (HE1.out _ _ _ (HW5.out.alloc _) (HZA.out w5)).mono ?_); rintro e6 w6 ⟨rfl, r6, rfl⟩)
    | (go_at_call 9; (with_reducible refine (HE2.out _ _ _ (Wb.drewN (HP5.out.alloc _) r6) (Wb.drewN (HW5.out.alloc _) r6)).mono ?_); rintro e7 w7 ⟨rfl, r7, rfl⟩)
    | fail)
  go_ret
  refine ⟨rfl, ?_⟩
  rw [HN.eq]
  exact (HB6.out.alloc (by have := HB6.out.size; have := HN.eq; omega) _).trans (below_drewN _)
end Go.Proofs.Ytilnbmlbahflkaa
