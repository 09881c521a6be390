/-
  The keys of chapter 16 as functions on lists of bytes.
  Three parts to be joined, the last of them one byte.
  prf.Split: bytes cut into pieces.
-/
import Derived.Test.YtgpigjoonhghhaaDoorQDZ0
import Derived.Test.YtgpigjoonhghhaaDoorQDConcat
import Derived.Test.YtgpigjoonhghhaaDoorQDZ3
import Derived.Test.YtgpigjoonhghhaaDoorQDIs
import Derived.Deep.Cut
import Derived.Deep.CutRange
import Derived.Deep.CutBlock
namespace Go.Proofs.YtgpigjoonhghhaaDoor
open Go.RowKit
set_option linter.unusedVariables false
def okN (n m : Nat) : Bool := decide (16 ≤ n) && decide (n ≤ 256) && (decide (16 ≤ m) && decide (m ≤ 256))
theorem okN_iff (n m : Nat) : okN n m = true ↔ (16 ≤ n ∧ n ≤ 256) ∧ 16 ≤ m ∧ m ≤ 256 := by simp [okN]
def keyE (n m : Nat) : Int := if okN n m = true then 0 else 13
def seedE (n m k : Nat) : Int := if okN n m = true ∧ k ≠ 0 then 0 else 13
def seedR (a b s : List Int) : List Int := if okN a.length b.length = true ∧ s.length ≠ 0 then hmacS (a ++ b) s else []
def rekR (d a b s : List Int) : List Int := if okN a.length b.length = true ∧ s.length ≠ 0 then hmacS d (s ++ (a ++ b)) else []
def cutK (b : List Int) (a n : Nat) : List Int := (b.drop a).take n
def allK (d a b : List Int) (i r : Int) : List Int := plusS d (a ++ (b ++ (be 8 i ++ be 8 r))) 172
def atK (j : Nat) : Nat := [0, 32, 68, 104, 136].getD j 0
def szK (j : Nat) : Nat := [32, 36, 36, 32, 32].getD j 0
def keyK (d a b : List Int) (i r : Int) (j : Nat) : List Int := if okN a.length b.length = true then cutK (allK d a b i r) (atK j) (szK j) else []
def chA (d a b s : List Int) : List Int := plusS d (s ++ (a ++ b)) 72
def chK (d a b s : List Int) (j : Nat) : List Int := if okN a.length b.length = true then cutK (chA d a b s) (36 * j) 36 else []
def padB : List Int := [75, 101, 121, 32, 80, 97, 100, 32, 102, 111, 114, 32, 73, 75, 69, 118, 50]
def octR (m n p : List Int) (k : Int) (d : List Int) : List Int := m ++ (n ++ hmacS p (k :: 0 :: 0 :: 0 :: d))
def shaR (s o : List Int) : List Int := hmacS (hmacS s padB) o
theorem seedR_len (a b s : List Int) (h : seedE a.length b.length s.length = 0) : (seedR a b s).length = 32 := by
  unfold seedE at h
  unfold seedR
  split at h
  · rw [if_pos (by assumption)]; exact hmacS_len _ _
  · omega
theorem split6 (b : List Int) (h : b.length = 172) : splitS b [32, 36, 36, 32, 32, 4] = some [cutK b 0 32, cutK b 32 36, cutK b 68 36, cutK b 104 32, cutK b 136 32, cutK b 168 4] := by
  simp [splitS, cutK, h, List.drop_drop]
theorem split5 (b : List Int) (h : b.length = 172) : splitS b [32, 36, 36, 32, 32] = some [cutK b 0 32, cutK b 32 36, cutK b 68 36, cutK b 104 32, cutK b 136 32] := by
  simp [splitS, cutK, h, List.drop_drop]
theorem split2 (b : List Int) (h : b.length = 72) : splitS b [36, 36] = some [cutK b 0 36, cutK b 36 36] := by
  simp [splitS, cutK, h]
end Go.Proofs.YtgpigjoonhghhaaDoor

namespace Go.Proofs.YtgpigjoonhghhaaDoor
open Go.RowKit
set_option linter.unusedVariables false
theorem three_parts (w : World) (p0 p1 : Option Addr) (n0 n1 c0 c1 : Nat) (x0 x1 : List Int) (z : Int) (B T : TypeId) (hz : 0 ≤ z ∧ z ≤ 255) (h0 : Byt w p0 n0 c0 x0) (h1 : Byt w p1 n1 c1 x1) :
    Parts ((w.alloc (.cells #[.int .u8 z] B)).alloc (.cells #[.slice p0 n0 c0, .slice p1 n1 c1, .slice (some ⟨w.heap.size, 0, none⟩) 1 1] T)) (some ⟨w.heap.size + 1, 0, none⟩) 3 3 [⟨p0, n0, c0, x0⟩, ⟨p1, n1, c1, x1⟩, ⟨some ⟨w.heap.size, 0, none⟩, 1, 1, [z]⟩] :=
  ⟨rfl, Nat.le_refl _, by decide, fun _ => ⟨w.heap.size + 1, rfl, fun j hj => by
    have : j = 0 ∨ j = 1 ∨ j = 2 := by simp at hj; omega
    have hs : (w.alloc (.cells #[.int .u8 z] B)).heap.size = w.heap.size + 1 := World.size_alloc _ _
    rw [← hs]
    rcases this with rfl | rfl | rfl <;> exact (cell_of_row _ _ _ _ _ _ (heap_alloc_new _ _)).trans rfl⟩, fun x hx => by
    simp at hx
    rcases hx with rfl | rfl | rfl
    · exact (h0.alloc _).alloc _
    · exact (h1.alloc _).alloc _
    · refine Byt.alloc (one_byte _ _ _ hz ?_) _
      exact (cell_of_row _ _ _ _ _ _ (heap_alloc_new _ _)).trans rfl⟩
end Go.Proofs.YtgpigjoonhghhaaDoor

namespace Go.Proofs.YtgpigjoonhghhaaDoor
open Go.RowKit
set_option linter.unusedVariables false
def SplitTo (R : Option (List (List Int))) (w : World) (e : Ending) (w' : World) : Prop :=
  ∃ (v : Value) (l : List Bl), e = .returned (.tuple #[v, .bool R.isSome]) ∧ RowG KBl NBl w' w.heap.size v l ∧ l.map Bl.xs = R.getD [] ∧ l.length ≤ 1000 ∧ Below w.heap.size w w'
set_option maxHeartbeats 1600000 in
set_option maxRecDepth 100000 in
theorem psplit_any (p q : Option Addr) (n c m d : Nat) (xs zs : List Int) (w : World) (h : Byt w p n c xs) (hn : n ≤ 100000) (k : Its w q m d zs) (hm : m ≤ 1000) :
    Calls Tryd.prog 58 #[.slice p n c, .slice q m d] w (SplitTo (splitS xs zs) w) := by
  have H := hidden (fun W (hW : Below w.heap.size w W) => h.below hW)
  have K := hidden (fun W (hW : Below w.heap.size w W) => k.below hW)
  have HXL := Is.mk h.len
  have HZL := Is.mk k.len
  have HZR := hidden k.at_rng
  have hk := k.le'
  obtain ⟨R, hR⟩ : ∃ R, splitS xs zs = R := ⟨_, rfl⟩
  rw [hR]
  have HR0 : Hid (R = (splitS (xs.drop 0) (zs.drop 0)).map ((([] : List Bl).map Bl.xs) ++ ·)) := by
    show R = _
    rw [List.drop_zero, List.drop_zero, hR]
    cases R <;> simp
  have HST := hidden (fun j at_ L => splitS_step xs zs j at_ L R)
  have HFA := hidden (fun j at_ L => splitS_fail xs zs j at_ L R)
  have HEN := hidden (fun j at_ L => splitS_end xs zs j at_ L R)
  have HW0 := hidden (RowG.nil KBl NBl w w.heap.size)
  clear h k hR
  go_enter Tryd.func58, Tryd.ntmps58
  go_wp2_with fail
  go_loopw [6, 7, 14] (fun v at_ i wr => ∃ (j a : Nat) (l : List Bl), j ≤ m ∧ i = .int .i64 j ∧ at_ = .int .i64 a ∧ a ≤ n ∧ l.length = j ∧ RowG KBl NBl wr w.heap.size v l ∧ Hid (R = (splitS (xs.drop a) (zs.drop j)).map (l.map Bl.xs ++ ·)) ∧ Below w.heap.size w wr) (fun _ _ i _ => m - (intOf i).toNat)
  case atStart => exact ⟨0, 0, [], by omega, rfl, rfl, by omega, rfl, HW0.out, HR0, Below.refl _ _⟩
  case round =>
    obtain ⟨j, a, l, hj, rfl, rfl, ha, hl, hrow, HR, hb⟩ := hrel
    have HRW := hidden hrow
    have HB := hidden hb
    have HLJ := Is.mk hl
    clear HW0 HR0 hrow hb hl
    by_cases hlt : j < m
    · have hlt' : (j : Int) < m := by omega
      obtain ⟨b, o, rfl, c0⟩ := (K.out wr HB.out).at_ j hlt
      have hzr := HZR.out j
      have HS1 := hidden (HST.out j a (l.map Bl.xs) (by rw [HZL.eq]; exact hlt) (by rw [HXL.eq]; exact ha) HR.out)
      have HF1 := hidden (HFA.out j a (l.map Bl.xs) (by rw [HZL.eq]; exact hlt) (by rw [HXL.eq]; exact ha) HR.out)
      generalize zs.getD j 0 = z at c0 hzr HS1 HF1
      have HSL := hidden (slice_bod p n c xs wr (H.out wr HB.out) (by omega) a z (by omega) hzr)
      by_cases hz : 0 ≤ z ∧ (a : Int) + z ≤ n
      · obtain ⟨z, rfl⟩ := Int.eq_ofNat_of_zero_le hz.1
        have hpe : pieceR xs (a : Int) (z : Int) = ((xs.drop a).take z, true) := by
          unfold pieceR
          rw [if_pos (by rw [HXL.eq]; omega)]
          simp
        rw [hpe] at HSL
        have hS1 := HS1.out (by omega) (by rw [HXL.eq]; omega)
        simp only [Int.toNat_natCast] at hS1
        have HS := hidden hS1
        obtain ⟨Z, hZ⟩ : ∃ Z, (xs.drop a).take z = Z := ⟨_, rfl⟩
        rw [hZ] at HSL HS
        have haz : a + z ≤ n := by omega
        have hw : IntKind.i64.wrap ((a : Int) + (z : Int)) = (a : Int) + (z : Int) := by rw [IntKind.wrap_i64]; omega
        clear hpe hS1 HS1 HF1 hZ hzr hz
        go_wp2_with (first
          | (go_at_call 64; (with_reducible refine (HSL.out).mono ?_); rintro e w2 ⟨p2, n2, c2, rfl, hbod, hbel⟩; have HB2 := hidden (HB.out.trans (hbel.mono HB.out.size)); have HO2 := hidden (hbod.mono HB.out.size); have HR2 := hidden (HRW.out.below hbel); clear hbod hbel)
          | (at_builtin; go_loud (refine wpList_append_g knownBl (by simp [NBl, KBl]) _ rfl _ _ rfl w.heap.size _ l rfl (HR2.out.alloc _) _ 1 1 [⟨p2, n2, c2, Z⟩] rfl (srcBl w2 ⟨p2, n2, c2, Z⟩ _) (fun x hx => by rw [List.mem_singleton.1 hx]; exact HO2.out.alloc _) ?b1 ?b2 ?b3 ?_))
          | fail)
        case b1 => rw [HLJ.eq]; unfold maxLen; omega
        case b2 => rw [HLJ.eq]; omega
        case b3 => have := HB2.out.size; simp; omega
        intro v3 w3 hr3 hg3
        have HB3 := hidden ((HB2.out.alloc HB2.out.size _).grown hg3 (by have := HB2.out.size; simp; omega) (fun k hk => (HR2.out.lt k hk).1))
        have HR3 := hidden hr3
        clear hr3 hg3 HR2 HO2 HB2 HSL HRW HB
        go_wp2
        go_roundw
        case rel =>
          refine ⟨j + 1, a + z, l ++ [⟨p2, n2, c2, Z⟩], by omega, by go_num, by go_num, haz, by simp [HLJ.eq], HR3.out, ?_, HB3.out⟩
          show R = _
          rw [List.map_append]
          exact HS.out
        case measure => simp [intOf]; omega
      · have hpe : pieceR xs (a : Int) z = ([], false) := by
          unfold pieceR
          rw [if_neg (by rw [HXL.eq]; omega)]
        rw [hpe] at HSL
        have hnone := HF1.out (by rw [HXL.eq]; exact hz)
        have HN := Is.mk hnone
        clear hpe HS1 HF1 hnone
        go_wp2_with (first
          | (go_at_call 64; (with_reducible refine (HSL.out).mono ?_); rintro e w2 ⟨p2, n2, c2, rfl, hbod, hbel⟩; have HB2 := hidden (HB.out.trans (hbel.mono HB.out.size)); clear hbod hbel)
          | fail)
        go_ret2
        exact ⟨_, [], by rw [HN.eq]; rfl, RowG.nil _ _ _ _, by rw [HN.eq]; rfl, by simp, HB2.out⟩
    · have hje : m ≤ j := by omega
      have hlt' : ¬ (j : Int) < m := by omega
      have hsome := HEN.out j a (l.map Bl.xs) (by rw [HZL.eq]; exact hje) HR.out
      have HS := Is.mk hsome
      clear hsome
      go_wp2
      go_ret2
      exact ⟨_, l, by rw [HS.eq]; rfl, HRW.out, by rw [HS.eq]; rfl, by rw [HLJ.eq]; omega, HB.out⟩
end Go.Proofs.YtgpigjoonhghhaaDoor
