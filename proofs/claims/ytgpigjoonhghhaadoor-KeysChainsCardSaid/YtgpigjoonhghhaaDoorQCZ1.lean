/-
  The keys of chapter 16 as functions on lists of bytes.
  Three parts to be joined, the last of them one byte.
  What the document's own Compare and Equal return: the lexicographic order of two slices of bytes, and whether they are equal.
  A list of choices: an int; ints that lie in a block; growing worlds.
  A list of choices: some bytes.
  A list of choices: a number of 64 bits.
-/
import Derived.Test.YtgpigjoonhghhaaDoorQCZ0
import Derived.Test.YtgpigjoonhghhaaDoorQCConcat
import Derived.Test.YtgpigjoonhghhaaDoorRows
import Derived.Test.YtgpigjoonhghhaaDoorQCBytes
import Derived.Test.YtgpigjoonhghhaaDoorQCNum
import Derived.Test.YtgpigjoonhghhaaDoorQCCodes2
import Derived.Test.YtgpigjoonhghhaaDoorQCZ2
import Derived.Deep.QuietTactic
import Derived.BigQuiet
namespace Go.Proofs.YtgpigjoonhghhaaDoor
open Go.RowKit
set_option linter.unusedVariables false
def okN (n m : Nat) : Bool := decide (16 ≤ n) && decide (n ≤ 256) && (decide (16 ≤ m) && decide (m ≤ 256))
theorem okN_iff (n m : Nat) : okN n m = true ↔ (16 ≤ n ∧ n ≤ 256) ∧ 16 ≤ m ∧ m ≤ 256 := by simp [okN]
def keyE (n m : Nat) : Int := if okN n m = true then 0 else 13
def seedE (n m k : Nat) : Int := if okN n m = true ∧ k ≠ 0 then 0 else 13
def seedR (a b s : List Int) : List Int := if okN a.length b.length = true ∧ s.length ≠ 0 then hmacS (a ++ b) s else []
def rekR (d a b s : List Int) : List Int := if okN a.length b.length = true ∧ s.length ≠ 0 then hmacS d (s ++ (a ++ b)) else []
def cutK (b : List Int) (a n : Nat) : List Int := (b.drop a).take n
def allK (d a b : List Int) (i r : Int) : List Int := plusS d (a ++ (b ++ (be 8 i ++ be 8 r))) 172
def atK (j : Nat) : Nat := [0, 32, 68, 104, 136].getD j 0
def szK (j : Nat) : Nat := [32, 36, 36, 32, 32].getD j 0
def keyK (d a b : List Int) (i r : Int) (j : Nat) : List Int := if okN a.length b.length = true then cutK (allK d a b i r) (atK j) (szK j) else []
def chA (d a b s : List Int) : List Int := plusS d (s ++ (a ++ b)) 72
def chK (d a b s : List Int) (j : Nat) : List Int := if okN a.length b.length = true then cutK (chA d a b s) (36 * j) 36 else []
def padB : List Int := [75, 101, 121, 32, 80, 97, 100, 32, 102, 111, 114, 32, 73, 75, 69, 118, 50]
def octR (m n p : List Int) (k : Int) (d : List Int) : List Int := m ++ (n ++ hmacS p (k :: 0 :: 0 :: 0 :: d))
def shaR (s o : List Int) : List Int := hmacS (hmacS s padB) o
theorem cutK_len (b : List Int) (a n : Nat) (h : a + n ≤ b.length) : (cutK b a n).length = n := by rw [cutK, List.length_take, List.length_drop]; omega
theorem seedR_len (a b s : List Int) (h : seedE a.length b.length s.length = 0) : (seedR a b s).length = 32 := by
  unfold seedE at h
  unfold seedR
  split at h
  · rw [if_pos (by assumption)]; exact hmacS_len _ _
  · omega
theorem split6 (b : List Int) (h : b.length = 172) : splitS b [32, 36, 36, 32, 32, 4] = some [cutK b 0 32, cutK b 32 36, cutK b 68 36, cutK b 104 32, cutK b 136 32, cutK b 168 4] := by
  simp [splitS, cutK, h, List.drop_drop]
theorem cut_join (b : List Int) (a n m : Nat) : cutK b a n ++ cutK b (a + n) m = cutK b a (n + m) := by
  unfold cutK
  rw [← List.drop_drop, List.take_add]
theorem keys_join (b : List Int) : cutK b 0 32 ++ (cutK b 32 36 ++ (cutK b 68 36 ++ (cutK b 104 32 ++ cutK b 136 32))) = b.take 168 := by
  rw [cut_join b 104 32 32, cut_join b 68 36 64, cut_join b 32 36 100, cut_join b 0 32 136]
  rfl
theorem plus_take (key seed : List Int) (k n : Nat) (h : k ≤ n) : (plusS key seed n).take k = plusS key seed k := by
  rw [plusS, List.take_take, Nat.min_eq_left h]
  exact plusS_of key seed _ k (by omega)
end Go.Proofs.YtgpigjoonhghhaaDoor

namespace Go.Proofs.YtgpigjoonhghhaaDoor
open Go.RowKit
set_option linter.unusedVariables false
theorem three_parts (w : World) (p0 p1 : Option Addr) (n0 n1 c0 c1 : Nat) (x0 x1 : List Int) (z : Int) (B T : TypeId) (hz : 0 ≤ z ∧ z ≤ 255) (h0 : Byt w p0 n0 c0 x0) (h1 : Byt w p1 n1 c1 x1) :
    Parts ((w.alloc (.cells #[.int .u8 z] B)).alloc (.cells #[.slice p0 n0 c0, .slice p1 n1 c1, .slice (some ⟨w.heap.size, 0, none⟩) 1 1] T)) (some ⟨w.heap.size + 1, 0, none⟩) 3 3 [⟨p0, n0, c0, x0⟩, ⟨p1, n1, c1, x1⟩, ⟨some ⟨w.heap.size, 0, none⟩, 1, 1, [z]⟩] :=
  ⟨rfl, Nat.le_refl _, by decide, fun _ => ⟨w.heap.size + 1, rfl, fun j hj => by
    have : j = 0 ∨ j = 1 ∨ j = 2 := by simp at hj; omega
    have hs : (w.alloc (.cells #[.int .u8 z] B)).heap.size = w.heap.size + 1 := World.size_alloc _ _
    rw [← hs]
    rcases this with rfl | rfl | rfl <;> exact (cell_of_row _ _ _ _ _ _ (heap_alloc_new _ _)).trans rfl⟩, fun x hx => by
    simp at hx
    rcases hx with rfl | rfl | rfl
    · exact (h0.alloc _).alloc _
    · exact (h1.alloc _).alloc _
    · refine Byt.alloc (one_byte _ _ _ hz ?_) _
      exact (cell_of_row _ _ _ _ _ _ (heap_alloc_new _ _)).trans rfl⟩
end Go.Proofs.YtgpigjoonhghhaaDoor

namespace Go.Proofs.YtgpigjoonhghhaaDoor
open Go.RowKit
set_option linter.unusedVariables false
theorem below_drewN {B : Nat} {w : World} (n : Nat) : Below B w (w.drewN n) := ⟨rfl, rfl, rfl, Nat.le_refl _, fun _ _ => rfl⟩
set_option maxHeartbeats 800000 in
theorem rcompare_any (p q : Option Addr) (n c m d : Nat) (xs ys : List Int) (w : World) (h : Byt w p n c xs) (k : Byt w q m d ys) :
    Calls Tryd.prog 38 #[.slice p n c, .slice q m d] w fun e w' => e = .returned (.int .i64 (cmpR xs ys)) ∧ ∃ r, w' = w.drewN r := by
  have hln := h.le
  have hlm := k.le
  have HX := hidden h.len
  have HY := hidden k.len
  have HC := hidden (fun j (hj : j < n) => (show ∃ b o, p = some ⟨b, o, none⟩ ∧ w.cell? ⟨b, o + j, none⟩ = some (.int .u8 (xs.getD j 0)) by
    obtain ⟨b, o, e, hc⟩ := h.at_ (by omega)
    exact ⟨b, o, e, hc j hj⟩))
  have HD := hidden (fun j (hj : j < m) => (show ∃ b o, q = some ⟨b, o, none⟩ ∧ w.cell? ⟨b, o + j, none⟩ = some (.int .u8 (ys.getD j 0)) by
    obtain ⟨b, o, e, hc⟩ := k.at_ (by omega)
    exact ⟨b, o, e, hc j hj⟩))
  have HR := hidden h.rng
  have HS := hidden k.rng
  clear h k
  go_enter Tryd.func38, Tryd.ntmps38
  go_wp2
  go_loopw [5] (fun i wr => ∃ j : Nat, j ≤ n ∧ j ≤ m ∧ i = .int .i64 j ∧ cmpR xs ys = cmpR (xs.drop j) (ys.drop j) ∧ ∃ r, wr = w.drewN r) (fun i _ => n - (intOf i).toNat)
  case atStart => exact ⟨0, by omega, by omega, rfl, rfl, 0, rfl⟩
  case round =>
    obtain ⟨j, hjn, hjm, rfl, he, r, rfl⟩ := hrel
    by_cases h1 : j < n
    · by_cases h2 : j < m
      · obtain ⟨b, o, rfl, hc1⟩ := HC.out j h1
        obtain ⟨b', o', rfl, hc2⟩ := HD.out j h2
        have hs := cmpR_step xs ys j (by rw [HX.out]; exact h1) (by rw [HY.out]; exact h2) he
        have r1 := rng_getD HR.out j
        have r2 := rng_getD HS.out j
        clear he
        generalize xs.getD j 0 = x at *
        generalize ys.getD j 0 = y at *
        by_cases hl : x < y
        · have E := hidden (hs.1 hl)
          clear hs
          go_wp2
          go_quiet (fail)
          go_wp2
          go_ret
          refine ⟨by rw [E.out]; rfl, ?_⟩
          simp only [World.drewN_drewN]
          exact ⟨_, rfl⟩
        · by_cases hg : y < x
          · have E := hidden (hs.2.1 hg)
            clear hs
            go_wp2
            go_quiet (fail)
            go_wp2
            go_quiet (fail)
            go_wp2
            go_ret
            refine ⟨by rw [E.out]; rfl, ?_⟩
            simp only [World.drewN_drewN]
            exact ⟨_, rfl⟩
          · have E := hidden (hs.2.2 (by omega))
            clear hs
            go_wp2
            go_quiet (fail)
            go_wp2
            go_quiet (fail)
            go_wp2
            go_roundw
            case rel => exact ⟨j + 1, by omega, by omega, by go_num, E.out, _, rfl⟩
            case measure => simp [intOf]; omega
      · have E := hidden (cmpR_end xs ys j (by rw [HX.out, HY.out]; omega) (by rw [HX.out]; omega) (by rw [HY.out]; omega) he)
        clear he
        obtain rfl : j = m := by omega
        have E1 := hidden (E.out.2.1 (by rw [HX.out, HY.out]; omega))
        clear E HC HD
        go_wp2
        go_ret
        exact ⟨by rw [E1.out]; rfl, _, rfl⟩
    · have E := hidden (cmpR_end xs ys j (by rw [HX.out, HY.out]; omega) (by rw [HX.out]; omega) (by rw [HY.out]; omega) he)
      clear he
      obtain rfl : j = n := by omega
      by_cases h2 : j < m
      · have E1 := hidden (E.out.1 (by rw [HX.out, HY.out]; omega))
        clear E HC HD
        go_wp2
        go_ret
        exact ⟨by rw [E1.out]; rfl, _, rfl⟩
      · obtain rfl : j = m := by omega
        have E1 := hidden (E.out.2.2 (by rw [HX.out, HY.out]))
        clear E HC HD
        go_wp2
        go_ret
        exact ⟨by rw [E1.out]; rfl, _, rfl⟩
set_option maxHeartbeats 400000 in
theorem requal_any (p q : Option Addr) (n c m d : Nat) (xs ys : List Int) (w : World) (h : Byt w p n c xs) (k : Byt w q m d ys) :
    Calls Tryd.prog 12 #[.slice p n c, .slice q m d] w fun e w' => e = .returned (.bool (decide (xs = ys))) ∧ ∃ r, w' = w.drewN r := by
  have HC := hidden (rcompare_any p q n c m d xs ys w h k)
  have he : decide (xs = ys) = (cmpR xs ys == 0) := by
    rw [Bool.eq_iff_iff, decide_eq_true_eq, beq_iff_eq]
    exact ⟨fun e => by rw [e, cmpR_refl], cmpR_eq xs ys⟩
  have HE := hidden he
  clear h k he
  go_enter Tryd.func12, Tryd.ntmps12
  go_wp2_with (go_at_call 38; refine HC.out.mono ?_; rintro e w' ⟨rfl, r, rfl⟩)
  go_ret
  exact ⟨by rw [HE.out]; rfl, _, rfl⟩
end Go.Proofs.YtgpigjoonhghhaaDoor

namespace Go.Proofs.YtgpigjoonhghhaaDoor
open Go.RowKit
set_option linter.unusedVariables false
theorem grown_alloc_new {a b : World} {row : Option Nat} (h : a.grownBy b row) (o : Obj) : a.grownBy (b.alloc o) row := grown_trans h (World.grownBy_alloc b o row)
theorem grown_own {a b c : World} {row row' : Option Nat} (h : a.grownBy b row) (hg : b.grownBy c row') (hr : ∀ j, row' = some j → a.heap.size ≤ j) : a.grownBy c row :=
  ⟨hg.os.trans h.os, hg.tape.trans h.tape, hg.output.trans h.output, Nat.le_trans h.size hg.size, fun i hi hne => (hg.block i (Nat.lt_of_lt_of_le hi h.size) (fun e => by have := hr i e.symm; omega)).trans (h.block i hi hne)⟩
end Go.Proofs.YtgpigjoonhghhaaDoor

namespace Go.Proofs.YtgpigjoonhghhaaDoor
open Go.RowKit
set_option linter.unusedVariables false
theorem Own.kept_row {w w' : World} {base : Nat} {e : TypeId} {v : Value} {xs : List Int} {k : Nat} (h : Own w base e v xs) (hg : w.grownBy w' (some k)) (hk : k < base) : Own w' base e v xs :=
  World.ownsRow.kept h hg (by
    rcases hv : v.ownBlock with _ | b
    · exact Or.inl rfl
    · have := (h.lt b hv).1
      exact Or.inr (by simp; omega))
set_option maxHeartbeats 800000 in
theorem mbytes_any (W w : World) (k : Nat) (h : Cod W w k) (n : Nat) (hn : n ≤ 100000) :
    Calls Tryd.prog 28 #[.pointer (some ⟨k, 0, none⟩), .int .i64 n] w fun e w' => ∃ p c ys, e = .returned (.slice p n c) ∧ Bod w' w.heap.size p n c ys ∧ Cod W w' k ∧ w.grownBy w' (some k) := by
  obtain ⟨i0, hi, hz0, hz1, hz2⟩ := info_parts Tryd.infoByte
  have hk := h.lt
  have H := hidden h
  clear h
  go_enter Tryd.func28, Tryd.ntmps28
  go_wp2
  go_loopw [5, 6] (fun u i wr => ∃ j : Nat, j ≤ n ∧ i = .int .i64 j ∧ ∃ ys : List Int, ys.length = j ∧ (∀ x ∈ ys, 0 ≤ x ∧ x ≤ 255) ∧ Own wr w.heap.size 5 u ys ∧ Cod W wr k ∧ w.grownBy wr (some k)) (fun _ i _ => n - (intOf i).toNat)
  case atStart => exact ⟨0, by omega, rfl, [], rfl, by simp, Own.nil _ _ _, H.out, grown_refl _ _⟩
  case round =>
    obtain ⟨j, hj, rfl, ys, hl, hr, ho, hc, hg⟩ := hrel
    have HO := hidden ho
    have HR := hidden hr
    have HC := hidden hc
    have HG := hidden hg
    clear ho hr hc hg H
    by_cases hlt : j < n
    · go_wp2_with (go_at_call 29; refine (next_any W _ k HC.out _ ?_).mono ?_; omega)
      rintro e w2 ⟨r, rfl, r0, r1, hc, hg⟩
      have HO2 := hidden (HO.out.kept_row hg hk)
      have HC2 := hidden hc
      have HG2 := hidden (grown_trans HG.out hg)
      clear hc hg HO HC HG
      go_wp2_with (at_builtin; go_loud (refine wpList_append_byt _ rfl _ _ 22 rfl w.heap.size 5 i0 (.int .u8 0) Tryd.underlying22 hi hz0 hz1 hz2 rfl _ _ rfl (HO2.out.alloc _) _ _ _ _ _ rfl (one_byte _ _ ((r + j * 7) % 256) ?c0 ?c1) rfl ?c2 ?c3 ?_))
      case c0 => omega
      case c1 => rw [World.cell?_alloc_at _ _ _ _ rfl]; rfl
      case c2 => omega
      case c3 => have := HG2.out.size; simp; omega
      intro u w4 hown hg
      have HC4 := hidden ((HC2.out.alloc _).grown hg (fun e => by have := (HO2.out.lt k e.symm).1; omega) (fun j hj => by have := (HO2.out.lt j hj).1; have := HC2.out.bel.size; have := HC2.out.base; omega))
      have HG4 := hidden (grown_own (grown_alloc_new HG2.out _) hg (fun j hj => (HO2.out.lt j hj).1))
      have HO4 := hidden hown
      clear hown hg HO2 HC2 HG2
      go_wp2
      go_roundw
      case rel => exact ⟨j + 1, by omega, by go_num, _, by simp [hl], rng_append HR.out (by intro z hz; simp at hz; omega), HO4.out, HC4.out, HG4.out⟩
      case measure => simp [intOf]; omega
    · obtain rfl : j = n := by omega
      obtain ⟨p, c, rfl, hb⟩ := HO.out.bod hl HR.out
      have HB := hidden hb
      clear hb HO HR
      go_wp2
      go_ret
      exact ⟨p, c, ys, rfl, HB.out, HC.out, HG.out⟩
end Go.Proofs.YtgpigjoonhghhaaDoor

namespace Go.Proofs.YtgpigjoonhghhaaDoor
open Go.RowKit
set_option linter.unusedVariables false
end Go.Proofs.YtgpigjoonhghhaaDoor
