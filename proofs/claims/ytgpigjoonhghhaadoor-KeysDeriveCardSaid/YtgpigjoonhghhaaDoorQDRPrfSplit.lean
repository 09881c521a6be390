/-
  The document's Split, and the comparison of two lists of bytes.
-/
import Derived.Test.YtgpigjoonhghhaaDoorQDZ1
import Derived.Test.YtgpigjoonhghhaaDoorQDZ4
import Derived.Deep.RegionWith
namespace Go.Proofs.YtgpigjoonhghhaaDoor
open Go.RowKit
set_option linter.unusedVariables false
set_option maxHeartbeats 1600000 in
set_option maxRecDepth 100000 in
theorem rsplit_any (p q : Option Addr) (n c m d : Nat) (xs zs : List Int) (w : World) (h : Byt w p n c xs) (hn : n ≤ 100000) (k : Its w q m d zs) (hm : m ≤ 1000) :
    Calls Tryd.prog 42 #[.slice p n c, .slice q m d] w (SplitTo (splitS xs zs) w) := by
  obtain ⟨i0, hi, hz0, hz1, hz2⟩ := info_parts Tryd.infoByte
  have H := hidden (fun W (hW : Below w.heap.size w W) => h.below hW)
  have K := hidden (fun W (hW : Below w.heap.size w W) => k.below hW)
  have HXL := Is.mk h.len
  have HZL := Is.mk k.len
  have HXR := hidden h.rng
  have HZR := hidden k.at_rng
  have hk := k.le'
  have hcap := h.cap
  have hbig := h.big
  unfold maxLen at hbig
  obtain ⟨R, hR⟩ : ∃ R, splitS xs zs = R := ⟨_, rfl⟩
  rw [hR]
  have HR0 : Hid (R = (splitS (xs.drop 0) (zs.drop 0)).map ((([] : List Bl).map Bl.xs) ++ ·)) := by
    show R = _
    rw [List.drop_zero, List.drop_zero, hR]
    cases R <;> simp
  have HST := hidden (fun j at_ L => splitS_step xs zs j at_ L R)
  have HFA := hidden (fun j at_ L => splitS_fail xs zs j at_ L R)
  have HEN := hidden (fun j at_ L => splitS_end xs zs j at_ L R)
  have HW0 := hidden (RowG.nil KBl NBl w w.heap.size)
  clear h k hR
  go_enter Tryd.func42, Tryd.ntmps42
  go_wp2_with fail
  go_loopw [6, 7, 8] (fun v at_ i wr => ∃ (j a : Nat) (l : List Bl), j ≤ m ∧ i = .int .i64 j ∧ at_ = .int .i64 a ∧ a ≤ n ∧ l.length = j ∧ RowG KBl NBl wr w.heap.size v l ∧ Hid (R = (splitS (xs.drop a) (zs.drop j)).map (l.map Bl.xs ++ ·)) ∧ Below w.heap.size w wr) (fun _ _ i _ => m - (intOf i).toNat)
  case atStart => exact ⟨0, 0, [], by omega, rfl, rfl, by omega, rfl, HW0.out, HR0, Below.refl _ _⟩
  case round =>
    obtain ⟨j, a, l, hj, rfl, rfl, ha, hl, hrow, HR, hb⟩ := hrel
    have HRW := hidden hrow
    have HB := hidden hb
    have HLJ := Is.mk hl
    clear HW0 HR0 hrow hb hl
    by_cases hlt : j < m
    · have hlt' : (j : Int) < m := by omega
      obtain ⟨b, o, rfl, -⟩ := (K.out wr HB.out).at_ j hlt
      have HC : Hid (∀ W, Below w.heap.size w W → W.cell? ⟨b, o + j, none⟩ = some (.int .i64 (zs.getD j 0))) := fun W hW => by
        obtain ⟨b', o', e, hc⟩ := (K.out W hW).at_ j hlt
        cases e
        exact hc
      have hzr := HZR.out j
      have HS1 := hidden (HST.out j a (l.map Bl.xs) (by rw [HZL.eq]; exact hlt) (by rw [HXL.eq]; exact ha) HR.out)
      have HF1 := hidden (HFA.out j a (l.map Bl.xs) (by rw [HZL.eq]; exact hlt) (by rw [HXL.eq]; exact ha) HR.out)
      generalize zs.getD j 0 = z at HC hzr HS1 HF1
      have c0 := HC.out wr HB.out
      have hwr : IntKind.i64.wrap ((n : Int) - (a : Int)) = (n : Int) - (a : Int) := by rw [IntKind.wrap_i64]; omega
      by_cases hz : 0 ≤ z ∧ (a : Int) + z ≤ n
      · obtain ⟨z, rfl⟩ := Int.eq_ofNat_of_zero_le hz.1
        have hS1 := HS1.out (by omega) (by rw [HXL.eq]; omega)
        simp only [Int.toNat_natCast] at hS1
        have HS := hidden hS1
        have haz : a + z ≤ n := by omega
        have hpart := (H.out wr HB.out).part a (a + z) (by omega) haz
        rw [show a + z - a = z by omega, List.drop_take, show a + z - a = z by omega] at hpart
        obtain ⟨Z, hZ⟩ : ∃ Z, (xs.drop a).take z = Z := ⟨_, rfl⟩
        rw [hZ] at HS hpart
        have HZr : Hid (∀ x ∈ Z, 0 ≤ x ∧ x ≤ 255) := by rw [← hZ]; exact rng_take (rng_drop HXR.out _) _
        have HZl : Hid (Z.length = z) := by show _ = _; rw [← hZ, List.length_take, List.length_drop, HXL.eq]; omega
        obtain ⟨bp, hbp⟩ : ∃ bp, (if c = a then p else Option.map (fun x : Addr => x.add a) p) = bp := ⟨_, rfl⟩
        rw [hbp] at hpart
        have HPT := hidden hpart
        have hw : IntKind.i64.wrap ((a : Int) + (z : Int)) = (a : Int) + (z : Int) := by rw [IntKind.wrap_i64]; omega
        have q0 : ¬ ((z : Int) < 0) := by omega
        have q1 : ¬ ((n : Int) - (a : Int) < (z : Int)) := by omega
        have q2 : (a : Int) ≤ (a : Int) + (z : Int) := by omega
        have q3 : (a : Int) + (z : Int) ≤ (c : Int) := by omega
        have q4 : ((a : Int) + (z : Int)).toNat = a + z := by omega
        have q5 : a + z - a = z := by omega
        have q6 : (0 : Int) ≤ (a : Int) := by omega
        have q7 : (0 : Int) ≤ (a : Int) + (z : Int) := by omega
        clear hS1 HS1 HF1 hZ hzr hz hpart
        go_wp2_with (first
          | (at_builtin; go_loud (refine wpList_append_byt _ rfl (.const (.slice none 0 0)) (.tmp 40) 22 rfl w.heap.size 5 i0 (.int .u8 0) Tryd.underlying22 hi hz0 hz1 hz2 rfl _ _ rfl (Own.nil _ w.heap.size 5) _ _ _ _ _ rfl HPT.out rfl ?b1 HB.out.size ?_); case b1 => (simp; omega))
          | fail)
        intro u2 w2 hown hg
        have HB2 := hidden (HB.out.grown hg HB.out.size (nob _))
        have HR2 := hidden (HRW.out.below ((Below.refl wr.heap.size wr).grown hg (Nat.le_refl _) (nob _)))
        obtain ⟨p2, c2, rfl, hbod⟩ := hown.bod HZl.out HZr.out
        have HO2 := hidden hbod
        clear hown hg hbod
        go_wp2_with (first
          | (at_builtin; go_loud (refine wpList_append_g knownBl (by simp [NBl, KBl]) _ rfl _ _ rfl w.heap.size _ l rfl (HR2.out.alloc _) _ 1 1 [⟨p2, z, c2, Z⟩] rfl (srcBl w2 ⟨p2, z, c2, Z⟩ _) (fun x hx => by rw [List.mem_singleton.1 hx]; exact HO2.out.alloc _) ?b1 ?b2 ?b3 ?_))
          | fail)
        case b1 => rw [HLJ.eq]; unfold maxLen; omega
        case b2 => rw [HLJ.eq]; omega
        case b3 => have := HB2.out.size; simp; omega
        intro v3 w3 hr3 hg3
        have HB3 := hidden ((HB2.out.alloc HB2.out.size _).grown hg3 (by have := HB2.out.size; simp; omega) (fun k hk => (HR2.out.lt k hk).1))
        have HR3 := hidden hr3
        have c3 := HC.out w3 HB3.out
        clear hr3 hg3 HR2 HO2 HB2 HRW HB
        go_wp2
        go_roundw
        case rel =>
          refine ⟨j + 1, a + z, l ++ [⟨p2, z, c2, Z⟩], by omega, by go_num, by go_num, haz, by simp [HLJ.eq], HR3.out, ?_, HB3.out⟩
          show R = _
          rw [List.map_append]
          exact HS.out
        case measure => simp [intOf]; omega
      · have hnone := HF1.out (by rw [HXL.eq]; exact hz)
        have HN := Is.mk hnone
        clear HS1 HF1 hnone
        by_cases hz0' : z < 0
        · go_wp2
          go_ret2
          exact ⟨_, [], by rw [HN.eq]; rfl, RowG.nil _ _ _ _, by rw [HN.eq]; rfl, by simp, HB.out⟩
        · have hz2' : (n : Int) - (a : Int) < z := by omega
          go_wp2
          go_ret2
          exact ⟨_, [], by rw [HN.eq]; rfl, RowG.nil _ _ _ _, by rw [HN.eq]; rfl, by simp, HB.out⟩
    · have hje : m ≤ j := by omega
      have hlt' : ¬ (j : Int) < m := by omega
      have hsome := HEN.out j a (l.map Bl.xs) (by rw [HZL.eq]; exact hje) HR.out
      have HS := Is.mk hsome
      clear hsome
      go_wp2
      go_ret2
      exact ⟨_, l, by rw [HS.eq]; rfl, HRW.out, by rw [HS.eq]; rfl, by rw [HLJ.eq]; omega, HB.out⟩
end Go.Proofs.YtgpigjoonhghhaaDoor
