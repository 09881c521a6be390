/-
  The keys of chapter 16 as functions on lists of bytes.
  Three parts to be joined, the last of them one byte.
  What the document's own Compare and Equal return: the lexicographic order of two slices of bytes, and whether they are equal.
-/
import Derived.Test.YtgpigjoonhghhaaDoorQAZ0
import Derived.Test.YtgpigjoonhghhaaDoorQAConcat
import Derived.Test.YtgpigjoonhghhaaDoorRows
import Derived.Test.YtgpigjoonhghhaaDoorQABytes
import Derived.Test.YtgpigjoonhghhaaDoorQANum
import Derived.Deep.QuietTactic
import Derived.BigQuiet
namespace Go.Proofs.YtgpigjoonhghhaaDoor
open Go.RowKit
set_option linter.unusedVariables false
def okN (n m : Nat) : Bool := decide (16 ≤ n) && decide (n ≤ 256) && (decide (16 ≤ m) && decide (m ≤ 256))
theorem okN_iff (n m : Nat) : okN n m = true ↔ (16 ≤ n ∧ n ≤ 256) ∧ 16 ≤ m ∧ m ≤ 256 := by simp [okN]
def keyE (n m : Nat) : Int := if okN n m = true then 0 else 13
def seedE (n m k : Nat) : Int := if okN n m = true ∧ k ≠ 0 then 0 else 13
def seedR (a b s : List Int) : List Int := if okN a.length b.length = true ∧ s.length ≠ 0 then hmacS (a ++ b) s else []
def rekR (d a b s : List Int) : List Int := if okN a.length b.length = true ∧ s.length ≠ 0 then hmacS d (s ++ (a ++ b)) else []
def cutK (b : List Int) (a n : Nat) : List Int := (b.drop a).take n
def allK (d a b : List Int) (i r : Int) : List Int := plusS d (a ++ (b ++ (be 8 i ++ be 8 r))) 172
def atK (j : Nat) : Nat := [0, 32, 68, 104, 136].getD j 0
def szK (j : Nat) : Nat := [32, 36, 36, 32, 32].getD j 0
def keyK (d a b : List Int) (i r : Int) (j : Nat) : List Int := if okN a.length b.length = true then cutK (allK d a b i r) (atK j) (szK j) else []
def chA (d a b s : List Int) : List Int := plusS d (s ++ (a ++ b)) 72
def chK (d a b s : List Int) (j : Nat) : List Int := if okN a.length b.length = true then cutK (chA d a b s) (36 * j) 36 else []
def padB : List Int := [75, 101, 121, 32, 80, 97, 100, 32, 102, 111, 114, 32, 73, 75, 69, 118, 50]
def octR (m n p : List Int) (k : Int) (d : List Int) : List Int := m ++ (n ++ hmacS p (k :: 0 :: 0 :: 0 :: d))
def shaR (s o : List Int) : List Int := hmacS (hmacS s padB) o
theorem cutK_len (b : List Int) (a n : Nat) (h : a + n ≤ b.length) : (cutK b a n).length = n := by rw [cutK, List.length_take, List.length_drop]; omega
theorem seedR_len (a b s : List Int) (h : seedE a.length b.length s.length = 0) : (seedR a b s).length = 32 := by
  unfold seedE at h
  unfold seedR
  split at h
  · rw [if_pos (by assumption)]; exact hmacS_len _ _
  · omega
theorem split6 (b : List Int) (h : b.length = 172) : splitS b [32, 36, 36, 32, 32, 4] = some [cutK b 0 32, cutK b 32 36, cutK b 68 36, cutK b 104 32, cutK b 136 32, cutK b 168 4] := by
  simp [splitS, cutK, h, List.drop_drop]
theorem split2 (b : List Int) (h : b.length = 72) : splitS b [36, 36] = some [cutK b 0 36, cutK b 36 36] := by
  simp [splitS, cutK, h]
end Go.Proofs.YtgpigjoonhghhaaDoor

namespace Go.Proofs.YtgpigjoonhghhaaDoor
open Go.RowKit
set_option linter.unusedVariables false
theorem three_parts (w : World) (p0 p1 : Option Addr) (n0 n1 c0 c1 : Nat) (x0 x1 : List Int) (z : Int) (B T : TypeId) (hz : 0 ≤ z ∧ z ≤ 255) (h0 : Byt w p0 n0 c0 x0) (h1 : Byt w p1 n1 c1 x1) :
    Parts ((w.alloc (.cells #[.int .u8 z] B)).alloc (.cells #[.slice p0 n0 c0, .slice p1 n1 c1, .slice (some ⟨w.heap.size, 0, none⟩) 1 1] T)) (some ⟨w.heap.size + 1, 0, none⟩) 3 3 [⟨p0, n0, c0, x0⟩, ⟨p1, n1, c1, x1⟩, ⟨some ⟨w.heap.size, 0, none⟩, 1, 1, [z]⟩] :=
  ⟨rfl, Nat.le_refl _, by decide, fun _ => ⟨w.heap.size + 1, rfl, fun j hj => by
    have : j = 0 ∨ j = 1 ∨ j = 2 := by simp at hj; omega
    have hs : (w.alloc (.cells #[.int .u8 z] B)).heap.size = w.heap.size + 1 := World.size_alloc _ _
    rw [← hs]
    rcases this with rfl | rfl | rfl <;> exact (cell_of_row _ _ _ _ _ _ (heap_alloc_new _ _)).trans rfl⟩, fun x hx => by
    simp at hx
    rcases hx with rfl | rfl | rfl
    · exact (h0.alloc _).alloc _
    · exact (h1.alloc _).alloc _
    · refine Byt.alloc (one_byte _ _ _ hz ?_) _
      exact (cell_of_row _ _ _ _ _ _ (heap_alloc_new _ _)).trans rfl⟩
end Go.Proofs.YtgpigjoonhghhaaDoor

namespace Go.Proofs.YtgpigjoonhghhaaDoor
open Go.RowKit
set_option linter.unusedVariables false
theorem below_drewN {B : Nat} {w : World} (n : Nat) : Below B w (w.drewN n) := ⟨rfl, rfl, rfl, Nat.le_refl _, fun _ _ => rfl⟩
set_option maxHeartbeats 800000 in
theorem rcompare_any (p q : Option Addr) (n c m d : Nat) (xs ys : List Int) (w : World) (h : Byt w p n c xs) (k : Byt w q m d ys) :
    Calls Tryd.prog 38 #[.slice p n c, .slice q m d] w fun e w' => e = .returned (.int .i64 (cmpR xs ys)) ∧ ∃ r, w' = w.drewN r := by
  have hln := h.le
  have hlm := k.le
  have HX := hidden h.len
  have HY := hidden k.len
  have HC := hidden (fun j (hj : j < n) => (show ∃ b o, p = some ⟨b, o, none⟩ ∧ w.cell? ⟨b, o + j, none⟩ = some (.int .u8 (xs.getD j 0)) by
    obtain ⟨b, o, e, hc⟩ := h.at_ (by omega)
    exact ⟨b, o, e, hc j hj⟩))
  have HD := hidden (fun j (hj : j < m) => (show ∃ b o, q = some ⟨b, o, none⟩ ∧ w.cell? ⟨b, o + j, none⟩ = some (.int .u8 (ys.getD j 0)) by
    obtain ⟨b, o, e, hc⟩ := k.at_ (by omega)
    exact ⟨b, o, e, hc j hj⟩))
  have HR := hidden h.rng
  have HS := hidden k.rng
  clear h k
  go_enter Tryd.func38, Tryd.ntmps38
  go_wp2
  go_loopw [5] (fun i wr => ∃ j : Nat, j ≤ n ∧ j ≤ m ∧ i = .int .i64 j ∧ cmpR xs ys = cmpR (xs.drop j) (ys.drop j) ∧ ∃ r, wr = w.drewN r) (fun i _ => n - (intOf i).toNat)
  case atStart => exact ⟨0, by omega, by omega, rfl, rfl, 0, rfl⟩
  case round =>
    obtain ⟨j, hjn, hjm, rfl, he, r, rfl⟩ := hrel
    by_cases h1 : j < n
    · by_cases h2 : j < m
      · obtain ⟨b, o, rfl, hc1⟩ := HC.out j h1
        obtain ⟨b', o', rfl, hc2⟩ := HD.out j h2
        have hs := cmpR_step xs ys j (by rw [HX.out]; exact h1) (by rw [HY.out]; exact h2) he
        have r1 := rng_getD HR.out j
        have r2 := rng_getD HS.out j
        clear he
        generalize xs.getD j 0 = x at *
        generalize ys.getD j 0 = y at *
        by_cases hl : x < y
        · have E := hidden (hs.1 hl)
          clear hs
          go_wp2
          go_quiet (fail)
          go_wp2
          go_ret
          refine ⟨by rw [E.out]; rfl, ?_⟩
          simp only [World.drewN_drewN]
          exact ⟨_, rfl⟩
        · by_cases hg : y < x
          · have E := hidden (hs.2.1 hg)
            clear hs
            go_wp2
            go_quiet (fail)
            go_wp2
            go_quiet (fail)
            go_wp2
            go_ret
            refine ⟨by rw [E.out]; rfl, ?_⟩
            simp only [World.drewN_drewN]
            exact ⟨_, rfl⟩
          · have E := hidden (hs.2.2 (by omega))
            clear hs
            go_wp2
            go_quiet (fail)
            go_wp2
            go_quiet (fail)
            go_wp2
            go_roundw
            case rel => exact ⟨j + 1, by omega, by omega, by go_num, E.out, _, rfl⟩
            case measure => simp [intOf]; omega
      · have E := hidden (cmpR_end xs ys j (by rw [HX.out, HY.out]; omega) (by rw [HX.out]; omega) (by rw [HY.out]; omega) he)
        clear he
        obtain rfl : j = m := by omega
        have E1 := hidden (E.out.2.1 (by rw [HX.out, HY.out]; omega))
        clear E HC HD
        go_wp2
        go_ret
        exact ⟨by rw [E1.out]; rfl, _, rfl⟩
    · have E := hidden (cmpR_end xs ys j (by rw [HX.out, HY.out]; omega) (by rw [HX.out]; omega) (by rw [HY.out]; omega) he)
      clear he
      obtain rfl : j = n := by omega
      by_cases h2 : j < m
      · have E1 := hidden (E.out.1 (by rw [HX.out, HY.out]; omega))
        clear E HC HD
        go_wp2
        go_ret
        exact ⟨by rw [E1.out]; rfl, _, rfl⟩
      · obtain rfl : j = m := by omega
        have E1 := hidden (E.out.2.2 (by rw [HX.out, HY.out]))
        clear E HC HD
        go_wp2
        go_ret
        exact ⟨by rw [E1.out]; rfl, _, rfl⟩
set_option maxHeartbeats 400000 in
theorem requal_any (p q : Option Addr) (n c m d : Nat) (xs ys : List Int) (w : World) (h : Byt w p n c xs) (k : Byt w q m d ys) :
    Calls Tryd.prog 12 #[.slice p n c, .slice q m d] w fun e w' => e = .returned (.bool (decide (xs = ys))) ∧ ∃ r, w' = w.drewN r := by
  have HC := hidden (rcompare_any p q n c m d xs ys w h k)
  have he : decide (xs = ys) = (cmpR xs ys == 0) := by
    rw [Bool.eq_iff_iff, decide_eq_true_eq, beq_iff_eq]
    exact ⟨fun e => by rw [e, cmpR_refl], cmpR_eq xs ys⟩
  have HE := hidden he
  clear h k he
  go_enter Tryd.func12, Tryd.ntmps12
  go_wp2_with (go_at_call 38; refine HC.out.mono ?_; rintro e w' ⟨rfl, r, rfl⟩)
  go_ret
  exact ⟨by rw [HE.out]; rfl, _, rfl⟩
end Go.Proofs.YtgpigjoonhghhaaDoor
