/-
  The document's own Same says yes to two lists that read alike.
-/
import Derived.Test.YtignenekomlleaaSelParse
namespace Go.Proofs.Ytignenekomlleaa
open Go.RowKit
set_option linter.unusedVariables false

set_option maxHeartbeats 1600000 in
set_option maxRecDepth 100000 in
theorem same5_yes (p q : Option Addr) (n c d : Nat) (l : List Sl) (w : World) (h : RdG KSl DSlr w p n c l) (k : RdG KSl DSlr w q n d l) :
    Calls Try.prog 21 #[.slice p n c, .slice q n d] w fun e w' => e = .returned (.bool true) ∧ Below w.heap.size w w' := by
  have hn := h.le
  have H := hidden h
  have K := hidden k
  have HL := hidden h.len
  clear h k
  go_enter Try.func21, Try.ntmps21
  go_wp2
  go_loopw [5] (fun i wr => ∃ j : Nat, j ≤ n ∧ i = .int .i64 j ∧ Below w.heap.size w wr) (fun i _ => n - (intOf i).toNat)
  case atStart => exact ⟨0, by omega, rfl, Below.refl _ _⟩
  case round =>
    obtain ⟨j, hj, rfl, hb⟩ := hrel
    have HB := hidden hb
    by_cases hlt : j < n
    · have hlt' : (j : Int) < n := by omega
      have hjl : j < l.length := by rw [HL.out]; exact hlt
      obtain ⟨g, rfl, a0, a1, a2, a3, a4, a5, a6, a7, a8, -⟩ := rd_sl (H.out.below hb) j hjl
      obtain ⟨g', rfl, b0, b1, b2, b3, b4, b5, b6, b7, b8, -⟩ := rd_sl (K.out.below hb) j hjl
      generalize l[j] = s at *
      obtain ⟨sp, sa, sb, ⟨lf, lh, ll⟩, ⟨hf, hh, hl⟩⟩ := s
      simp only at a0 a1 a2 a3 a4 a5 a6 a7 a8 b0 b1 b2 b3 b4 b5 b6 b7 b8
      clear hb hjl
      go_wp2
      go_quiet (fail)
      go_wp2
      go_roundw
      case rel => exact ⟨j + 1, by omega, by go_num, HB.out.trans (drew_below ⟨_, rfl⟩)⟩
      case measure => simp [intOf]; omega
    · obtain rfl : j = n := by omega
      clear hb
      go_wp2
      go_ret
      exact ⟨rfl, HB.out⟩
end Go.Proofs.Ytignenekomlleaa
