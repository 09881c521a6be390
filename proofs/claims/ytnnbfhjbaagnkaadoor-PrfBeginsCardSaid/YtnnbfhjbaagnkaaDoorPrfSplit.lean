/-
  prf.Split: bytes cut into pieces.
-/
import Derived.Test.YtnnbfhjbaagnkaaDoorPrfInts
import Derived.Test.YtnnbfhjbaagnkaaDoorPrfMath
import Derived.Test.YtnnbfhjbaagnkaaDoorWSlice
import Derived.Test.YtnnbfhjbaagnkaaDoorIs
import Derived.Deep.Cut
import Derived.Deep.CutRange
import Derived.Deep.CutBlock
namespace Go.Proofs.YtnnbfhjbaagnkaaDoor
open Go.RowKit
set_option linter.unusedVariables false

/-- What cutting returns: the pieces in a row of the call's own, or none. -/
def SplitTo (R : Option (List (List Int))) (w : World) (e : Ending) (w' : World) : Prop :=
  ∃ (v : Value) (l : List Bl), e = .returned (.tuple #[v, .bool R.isSome]) ∧ RowG KBl NBl w' w.heap.size v l ∧ l.map Bl.xs = R.getD [] ∧ l.length ≤ 1000 ∧ Below w.heap.size w w'

set_option maxHeartbeats 1600000 in
set_option maxRecDepth 100000 in
theorem psplit_any (p q : Option Addr) (n c m d : Nat) (xs zs : List Int) (w : World) (h : Byt w p n c xs) (hn : n ≤ 100000) (k : Its w q m d zs) (hm : m ≤ 1000) :
    Calls Tryd.prog 14 #[.slice p n c, .slice q m d] w (SplitTo (splitS xs zs) w) := by
  have H := hidden (fun W (hW : Below w.heap.size w W) => h.below hW)
  have K := hidden (fun W (hW : Below w.heap.size w W) => k.below hW)
  have HXL := Is.mk h.len
  have HZL := Is.mk k.len
  have HZR := hidden k.at_rng
  have hk := k.le'
  obtain ⟨R, hR⟩ : ∃ R, splitS xs zs = R := ⟨_, rfl⟩
  rw [hR]
  have HR0 : Hid (R = (splitS (xs.drop 0) (zs.drop 0)).map ((([] : List Bl).map Bl.xs) ++ ·)) := by
    show R = _
    rw [List.drop_zero, List.drop_zero, hR]
    cases R <;> simp
  have HST := hidden (fun j at_ L => splitS_step xs zs j at_ L R)
  have HFA := hidden (fun j at_ L => splitS_fail xs zs j at_ L R)
  have HEN := hidden (fun j at_ L => splitS_end xs zs j at_ L R)
  have HW0 := hidden (RowG.nil KBl NBl w w.heap.size)
  clear h k hR
  go_enter Tryd.func14, Tryd.ntmps14
  go_wp2_with fail
  go_loopw [6, 7, 14] (fun v at_ i wr => ∃ (j a : Nat) (l : List Bl), j ≤ m ∧ i = .int .i64 j ∧ at_ = .int .i64 a ∧ a ≤ n ∧ l.length = j ∧ RowG KBl NBl wr w.heap.size v l ∧ Hid (R = (splitS (xs.drop a) (zs.drop j)).map (l.map Bl.xs ++ ·)) ∧ Below w.heap.size w wr) (fun _ _ i _ => m - (intOf i).toNat)
  case atStart => exact ⟨0, 0, [], by omega, rfl, rfl, by omega, rfl, HW0.out, HR0, Below.refl _ _⟩
  case round =>
    obtain ⟨j, a, l, hj, rfl, rfl, ha, hl, hrow, HR, hb⟩ := hrel
    have HRW := hidden hrow
    have HB := hidden hb
    have HLJ := Is.mk hl
    clear HW0 HR0 hrow hb hl
    by_cases hlt : j < m
    · have hlt' : (j : Int) < m := by omega
      obtain ⟨b, o, rfl, c0⟩ := (K.out wr HB.out).at_ j hlt
      have hzr := HZR.out j
      have HS1 := hidden (HST.out j a (l.map Bl.xs) (by rw [HZL.eq]; exact hlt) (by rw [HXL.eq]; exact ha) HR.out)
      have HF1 := hidden (HFA.out j a (l.map Bl.xs) (by rw [HZL.eq]; exact hlt) (by rw [HXL.eq]; exact ha) HR.out)
      generalize zs.getD j 0 = z at c0 hzr HS1 HF1
      have HSL := hidden (slice_bod p n c xs wr (H.out wr HB.out) (by omega) a z (by omega) hzr)
      by_cases hz : 0 ≤ z ∧ (a : Int) + z ≤ n
      · obtain ⟨z, rfl⟩ := Int.eq_ofNat_of_zero_le hz.1
        have hpe : pieceR xs (a : Int) (z : Int) = ((xs.drop a).take z, true) := by
          unfold pieceR
          rw [if_pos (by rw [HXL.eq]; omega)]
          simp
        rw [hpe] at HSL
        have hS1 := HS1.out (by omega) (by rw [HXL.eq]; omega)
        simp only [Int.toNat_natCast] at hS1
        have HS := hidden hS1
        obtain ⟨Z, hZ⟩ : ∃ Z, (xs.drop a).take z = Z := ⟨_, rfl⟩
        rw [hZ] at HSL HS
        have haz : a + z ≤ n := by omega
        have hw : IntKind.i64.wrap ((a : Int) + (z : Int)) = (a : Int) + (z : Int) := by rw [IntKind.wrap_i64]; omega
        clear hpe hS1 HS1 HF1 hZ hzr hz
        go_wp2_with (first
          | (go_at_call 27; (with_reducible refine (HSL.out).mono ?_); rintro e w2 ⟨p2, n2, c2, rfl, hbod, hbel⟩; have HB2 := hidden (HB.out.trans (hbel.mono HB.out.size)); have HO2 := hidden (hbod.mono HB.out.size); have HR2 := hidden (HRW.out.below hbel); clear hbod hbel)
          | (at_builtin; go_loud (refine wpList_append_g knownBl (by simp [NBl, KBl]) _ rfl _ _ rfl w.heap.size _ l rfl (HR2.out.alloc _) _ 1 1 [⟨p2, n2, c2, Z⟩] rfl (srcBl w2 ⟨p2, n2, c2, Z⟩ _) (fun x hx => by rw [List.mem_singleton.1 hx]; exact HO2.out.alloc _) ?b1 ?b2 ?b3 ?_))
          | fail)
        case b1 => rw [HLJ.eq]; unfold maxLen; omega
        case b2 => rw [HLJ.eq]; omega
        case b3 => have := HB2.out.size; simp; omega
        intro v3 w3 hr3 hg3
        have HB3 := hidden ((HB2.out.alloc HB2.out.size _).grown hg3 (by have := HB2.out.size; simp; omega) (fun k hk => (HR2.out.lt k hk).1))
        have HR3 := hidden hr3
        clear hr3 hg3 HR2 HO2 HB2 HSL HRW HB
        go_wp2
        go_roundw
        case rel =>
          refine ⟨j + 1, a + z, l ++ [⟨p2, n2, c2, Z⟩], by omega, by go_num, by go_num, haz, by simp [HLJ.eq], HR3.out, ?_, HB3.out⟩
          show R = _
          rw [List.map_append]
          exact HS.out
        case measure => simp [intOf]; omega
      · have hpe : pieceR xs (a : Int) z = ([], false) := by
          unfold pieceR
          rw [if_neg (by rw [HXL.eq]; omega)]
        rw [hpe] at HSL
        have hnone := HF1.out (by rw [HXL.eq]; exact hz)
        have HN := Is.mk hnone
        clear hpe HS1 HF1 hnone
        go_wp2_with (first
          | (go_at_call 27; (with_reducible refine (HSL.out).mono ?_); rintro e w2 ⟨p2, n2, c2, rfl, hbod, hbel⟩; have HB2 := hidden (HB.out.trans (hbel.mono HB.out.size)); clear hbod hbel)
          | fail)
        go_ret2
        exact ⟨_, [], by rw [HN.eq]; rfl, RowG.nil _ _ _ _, by rw [HN.eq]; rfl, by simp, HB2.out⟩
    · have hje : m ≤ j := by omega
      have hlt' : ¬ (j : Int) < m := by omega
      have hsome := HEN.out j a (l.map Bl.xs) (by rw [HZL.eq]; exact hje) HR.out
      have HS := Is.mk hsome
      clear hsome
      go_wp2
      go_ret2
      exact ⟨_, l, by rw [HS.eq]; rfl, HRW.out, by rw [HS.eq]; rfl, by rw [HLJ.eq]; omega, HB.out⟩
end Go.Proofs.YtnnbfhjbaagnkaaDoor
