/-
  What package proposal reads of proposals one behind the other, or throws; and its read, which catches that.
  What package proposal's Parse returns, for any bytes.
-/
import Derived.Test.YtmjagbghgbemaaaDoorQZ2
import Derived.Test.YtmjagbghgbemaaaDoorQPCheck3
import Derived.Defers
import Derived.Recover
import Derived.Laws.Pointers
namespace Go.Proofs.YtmjagbghgbemaaaDoor
open Go.RowKit
set_option linter.unusedVariables false

/-- What proposals returns. -/
def GotPs (w : World) (k : Nat) (r : Option (List Pr)) (e : Ending) (w' : World) : Prop :=
  w.grownBy w' (some k) ∧ match r with
  | none => Thrown e
  | some l => ∃ (v : Value) (ls : List PrP), e = .returned v ∧ ls.map PrP.pr = l ∧ RowG KPr NPr w' w.heap.size v ls
theorem gotps_none {w : World} {k : Nat} {r : Option (List Pr)} {e : Ending} {w' : World} (hg : w.grownBy w' (some k)) (hr : r = none) (ht : Thrown e) : GotPs w k r e w' := by
  subst hr
  exact ⟨hg, ht⟩

/-- What read returns. -/
def ReadP (w : World) (r : Option (List Pr)) (e : Ending) (w' : World) : Prop :=
  Below w.heap.size w w' ∧ match r with
  | none => e = .returned (.tuple #[.slice none 0 0, .bool false])
  | some l => ∃ (v : Value) (ls : List PrP), e = .returned (.tuple #[v, .bool true]) ∧ ls.map PrP.pr = l ∧ RowG KPr NPr w' w.heap.size v ls

end Go.Proofs.YtmjagbghgbemaaaDoor

namespace Go.Proofs.YtmjagbghgbemaaaDoor
open Go.RowKit
set_option linter.unusedVariables false

/-- What Parse returns. -/
def ParsedP (w : World) (r : List Pr × Int) (e : Ending) (w' : World) : Prop := ∃ (v : Value) (ls : List PrP), e = .returned (.tuple #[v, .int .i64 r.2]) ∧ ls.map PrP.pr = r.1 ∧ RowG KPr NPr w' w.heap.size v ls ∧ Below w.heap.size w w'
theorem parsed_fail (w w' : World) (E : Int) (r : List Pr × Int) (hr : r = ([], E)) (hb : Below w.heap.size w w') : ParsedP w r (.returned (.tuple #[.slice none 0 0, .int .i64 E])) w' := by
  subst hr
  exact ⟨_, [], rfl, rfl, RowG.nil _ _ _ _, hb⟩
theorem prs_few : ∀ (ys : List Int) (l : List Pr), (∀ x ∈ ys, 0 ≤ x ∧ x ≤ 255) → prsV ys = some l → l.length ≤ ys.length := by
  suffices ∀ m (ys : List Int) (l : List Pr), (∀ x ∈ ys, 0 ≤ x ∧ x ≤ 255) → ys.length ≤ m → prsV ys = some l → l.length ≤ ys.length from fun ys l hr h => this _ ys l hr (Nat.le_refl _) h
  intro m
  induction m with
  | zero =>
    intro ys l _ h0 h
    rw [prsV_nil _ (by omega)] at h
    simp at h
    subst h
    simp
  | succ m ih =>
    intro ys l hr h0 h
    by_cases hz : ys.length = 0
    · rw [prsV_nil _ hz] at h
      simp at h
      subst h
      simp
    rw [prs_sec _ hr hz] at h
    rcases hs : secV 2 ys with _ | ⟨zs, L⟩
    · rw [hs] at h; cases h
    rw [hs] at h
    simp only at h
    rcases ht : prV zs with _ | t
    · rw [ht] at h; cases h
    rw [ht] at h
    simp only at h
    have hl := secV_len hs
    rcases hn : prsV (ys.drop L) with _ | l'
    · rw [hn] at h; cases h
    rw [hn] at h
    simp at h
    subst h
    have := ih _ _ (rng_drop hr _) (by rw [List.length_drop]; omega) hn
    rw [List.length_drop] at this
    simp
    omega

end Go.Proofs.YtmjagbghgbemaaaDoor
