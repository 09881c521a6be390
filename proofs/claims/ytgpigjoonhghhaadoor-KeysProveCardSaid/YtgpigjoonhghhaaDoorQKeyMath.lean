/-
  The keys of chapter 16 as functions on lists of bytes.
-/
import Derived.Test.YtgpigjoonhghhaaDoorQPrfMath
import Derived.Test.YtgpigjoonhghhaaDoorQConcat
namespace Go.Proofs.YtgpigjoonhghhaaDoor
open Go.RowKit
set_option linter.unusedVariables false
def okN (n m : Nat) : Bool := decide (16 ≤ n) && decide (n ≤ 256) && (decide (16 ≤ m) && decide (m ≤ 256))
theorem okN_iff (n m : Nat) : okN n m = true ↔ (16 ≤ n ∧ n ≤ 256) ∧ 16 ≤ m ∧ m ≤ 256 := by simp [okN]
def keyE (n m : Nat) : Int := if okN n m = true then 0 else 13
def seedE (n m k : Nat) : Int := if okN n m = true ∧ k ≠ 0 then 0 else 13
def seedR (a b s : List Int) : List Int := if okN a.length b.length = true ∧ s.length ≠ 0 then hmacS (a ++ b) s else []
def rekR (d a b s : List Int) : List Int := if okN a.length b.length = true ∧ s.length ≠ 0 then hmacS d (s ++ (a ++ b)) else []
def cutK (b : List Int) (a n : Nat) : List Int := (b.drop a).take n
def allK (d a b : List Int) (i r : Int) : List Int := plusS d (a ++ (b ++ (be 8 i ++ be 8 r))) 172
def atK (j : Nat) : Nat := [0, 32, 68, 104, 136].getD j 0
def szK (j : Nat) : Nat := [32, 36, 36, 32, 32].getD j 0
def keyK (d a b : List Int) (i r : Int) (j : Nat) : List Int := if okN a.length b.length = true then cutK (allK d a b i r) (atK j) (szK j) else []
def chA (d a b s : List Int) : List Int := plusS d (s ++ (a ++ b)) 72
def chK (d a b s : List Int) (j : Nat) : List Int := if okN a.length b.length = true then cutK (chA d a b s) (36 * j) 36 else []
def padB : List Int := [75, 101, 121, 32, 80, 97, 100, 32, 102, 111, 114, 32, 73, 75, 69, 118, 50]
def octR (m n p : List Int) (k : Int) (d : List Int) : List Int := m ++ (n ++ hmacS p (k :: 0 :: 0 :: 0 :: d))
def shaR (s o : List Int) : List Int := hmacS (hmacS s padB) o
theorem seedR_len (a b s : List Int) (h : seedE a.length b.length s.length = 0) : (seedR a b s).length = 32 := by
  unfold seedE at h
  unfold seedR
  split at h
  · rw [if_pos (by assumption)]; exact hmacS_len _ _
  · omega
end Go.Proofs.YtgpigjoonhghhaaDoor
