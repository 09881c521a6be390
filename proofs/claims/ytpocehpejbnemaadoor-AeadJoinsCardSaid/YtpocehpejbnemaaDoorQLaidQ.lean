/-
  What the condition on the package variable says of the table of the quarters.
-/
import Derived.Test.YtpocehpejbnemaaDoorQChaArr
import Derived.ProofKit
import Derived.LaidMore
import Derived.Lib.LaidTab
import Derived.Stop.Joined
namespace Go.Proofs.YtpocehpejbnemaaDoor
open Go.RowKit
set_option linter.unusedVariables false

abbrev listQ : List (String × DataW Unit) := [("ipsecgate/chacha.quarters", Rows.laid_ipsecgate_chacha_quarters)]
abbrev stepsQ : Nat := 19
theorem gQ : Tryd.prog.globalNamed "ipsecgate/chacha.quarters" = some 1 := by kernel_rfl
theorem tQ : (Tryd.prog.globals[1]?).map (·.type) = some 130 := by kernel_rfl
theorem cellsI' : Tryd.prog.cellsOf 3 = 1 := by kernel_rfl
theorem cells4 : Tryd.prog.cellsOf 129 = 4 := by kernel_rfl
theorem cells32 : Tryd.prog.cellsOf 130 = 32 := by kernel_rfl
/-- The rows of the table, as the condition lists them. -/
def rowsQ : List (List Int) := [[0, 4, 8, 12], [1, 5, 9, 13], [2, 6, 10, 14], [3, 7, 11, 15], [0, 5, 10, 15], [1, 6, 11, 12], [2, 7, 8, 13], [3, 4, 9, 14]]
theorem laidRows : (Rows.laid_ipsecgate_chacha_quarters : DataW Unit) = .agg (rowsQ.map (Lib.tabData .i64)) := rfl

/-- An array of arrays of integers that reads as a table of rows holds their numbers, cell for cell. -/
theorem cells_of_rows {P : Program} {w : World} {fuel : Nat} {t e f : TypeId} {n m : Nat} {k : IntKind} {cs : List Value} {rs : List (List Int)} {p : List MemPlace}
    (ht : P.underlying t = some (.array n e)) (he : P.underlying e = some (.array m f)) (hf : P.underlying f = some (.int k)) (hcf : P.cellsOf f = 1) (hce : P.cellsOf e = m) (hct : P.cellsOf t = n * m)
    (h : DataW.trod (fun _ => ()) P w 0 (fun _ => true) false fuel t cs = some ((.agg (rs.map (Lib.tabData k)) : DataW Unit), p)) :
    cs.length = n * m ∧ rs.length = n ∧ ∀ (i : Nat) (r : List Int), rs[i]? = some r → (cs.drop (i * m)).take m = r.map fun z => Value.int k z := by
  cases fuel with
  | zero => simp [DataW.trod] at h
  | succ fuel =>
    simp only [DataW.trod, ht, hce, hct] at h
    split at h
    · rename_i hl
      obtain ⟨xs, hm, hx⟩ := Option.map_eq_some_iff.1 h
      have hxs : xs.map (·.1) = rs.map (Lib.tabData k) := by
        have := congrArg Prod.fst hx
        simpa using this
      have hxl : xs.length = n := by simpa using Lib.mapM_length hm
      have hrl : rs.length = n := by
        have := congrArg List.length hxs
        simp at this
        omega
      refine ⟨hl, hrl, fun i r hr => ?_⟩
      have hi : i < n := by
        have := (List.getElem?_eq_some_iff.1 hr).1
        omega
      obtain ⟨b, hb, hfb⟩ := Lib.mapM_at hm i i (by simp [hi])
      have h2 : (xs.map (·.1))[i]? = some b.1 := by simp [hb]
      rw [hxs, List.getElem?_map, hr] at h2
      have e1 : Lib.tabData k r = b.1 := by simpa using h2
      have h3 : DataW.trod (fun _ => ()) P w 0 (fun _ => true) false fuel e ((cs.drop (i * m)).take m) = some (Lib.tabData k r, b.2) := by rw [hfb, e1]
      exact Lib.cells_of_tab he hf hcf hce h3
    · cases h
theorem laidQ {W : World} (h : laidMetH Tryd.prog listQ W) : QAt W := by
  rw [MakeChecks.laidMetH_plain _ _ _ (by kernel_rfl)] at h
  obtain ⟨ps, ⟨g', t', cs, fuel, p, q, hg', ht', hvar, hd, _, _⟩, _⟩ := h
  obtain rfl := Option.some.inj (gQ.symm.trans hg')
  obtain rfl := Option.some.inj (tQ.symm.trans ht')
  rw [laidRows] at hd
  obtain ⟨hl, -, hr⟩ := cells_of_rows Tryd.underlying130 Tryd.underlying129 Tryd.underlying3 cellsI' cells4 cells32 hd
  have r0 := hr 0 _ rfl
  have r1 := hr 1 _ rfl
  have r2 := hr 2 _ rfl
  have r3 := hr 3 _ rfl
  have r4 := hr 4 _ rfl
  have r5 := hr 5 _ rfl
  have r6 := hr 6 _ rfl
  have r7 := hr 7 _ rfl
  have hcs : cs.toList = qCells.toList := by
    have e : cs.toList = (cs.toList.drop (0 * 4)).take 4 ++ ((cs.toList.drop (1 * 4)).take 4 ++ ((cs.toList.drop (2 * 4)).take 4 ++ ((cs.toList.drop (3 * 4)).take 4 ++ ((cs.toList.drop (4 * 4)).take 4 ++ ((cs.toList.drop (5 * 4)).take 4 ++ ((cs.toList.drop (6 * 4)).take 4 ++ (cs.toList.drop (7 * 4)).take 4)))))) := by
      generalize cs.toList = L at hl ⊢
      have s : ∀ (i : Nat), L.drop (i * 4) = (L.drop (i * 4)).take 4 ++ L.drop ((i + 1) * 4) := fun i => by
        rw [show (i + 1) * 4 = i * 4 + 4 by omega, ← List.drop_drop, List.take_append_drop]
      have e7 : (L.drop (7 * 4)).take 4 = L.drop (7 * 4) := List.take_of_length_le (by rw [List.length_drop]; omega)
      rw [e7, ← s 6, ← s 5, ← s 4, ← s 3, ← s 2, ← s 1, ← s 0]
      rfl
    rw [e, r0, r1, r2, r3, r4, r5, r6, r7]
    rfl
  have hce : cs = qCells := by
    apply Array.ext'
    exact hcs
  rw [hce] at hvar
  unfold World.var? at hvar
  rw [gQ] at hvar
  simp only [Option.bind_some] at hvar
  split at hvar
  · rename_i c2 t2 f2 hh
    cases hvar
    exact ⟨t2, f2, hh⟩
  · cases hvar
theorem doorQ (os : Os) (args : Array Value) : laidMetH Tryd.prog listQ ((World.doorLaid Tryd.prog stepsQ os).forCall (fun _ _ => 0) ⟨#[], args, []⟩).memory :=
  laidMetH_of_parts3 (fuel := 8) (laidMet_of_run' 8 (by kernel_rfl) (by kernel_rfl)) (by kernel_rfl) (by kernel_rfl)
end Go.Proofs.YtpocehpejbnemaaDoor
