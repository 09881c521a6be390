/-
  What the document's own Unhex returns, for every text.
-/
import Derived.Test.YtnbpangegegccaaDigit
import Derived.Test.YtnbpangegegccaaClone
import Derived.Deep.QuietTactic
import Derived.BigQuiet
namespace Go.Proofs.Ytnbpangegegccaa
open Go.RowKit
set_option linter.unusedVariables false

/-- How Unhex ends: an odd length, a letter that is no digit, or bytes of the call's own. -/
def RUnhexEnd (w : World) (L : List Int) (e : Ending) (w' : World) : Prop :=
  Below w.heap.size w w' ∧ ((L.length % 2 = 1 ∧ e = .returned (.tuple #[.slice none 0 0, .int .i64 2])) ∨ (L.length % 2 = 0 ∧ unh L = none ∧ e = .returned (.tuple #[.slice none 0 0, .int .i64 4])) ∨
    (L.length % 2 = 0 ∧ ∃ ys v, unh L = some ys ∧ e = .returned (.tuple #[v, .int .i64 0]) ∧ Own w' w.heap.size 5 v ys))

set_option maxHeartbeats 800000 in
theorem runhex_even (s : ByteArray) (w : World) (hs : s.size ≤ 140737488355328) (he : s.size % 2 = 0) :
    Calls Try.prog 28 #[.string s] w (RUnhexEnd w (letters s)) := by
  have HN := hidden (letters_len s)
  have hev : ((s.size : Int) % 2 == 1) = false := by simp; omega
  have hl : ∀ j (h : j < s.size), (letters s).getD j 0 = (s[j].toNat : Int) := letters_at s
  have HA := hidden hl
  clear hl
  obtain ⟨i0, hi, hz0, hz1, hz2⟩ := info_parts Try.infoByte
  go_enter Try.func28, Try.ntmps28
  have hown := Own.nil w w.heap.size 5
  have hbel := Below.refl w.heap.size w
  go_wp2
  go_loopw [4, 5, 6, 7] (fun u i _ _ wr => ∃ m : Nat, m % 2 = 0 ∧ m ≤ s.size ∧ i = .int .i64 m ∧ ∃ ys, ys.length ≤ m ∧ unh (letters s) = (unh ((letters s).drop m)).map (ys ++ ·) ∧ Own wr w.heap.size 5 u ys ∧ Below w.heap.size w wr) (fun _ i _ _ _ => s.size - (intOf i).toNat)
  case atStart => exact ⟨0, rfl, by omega, rfl, [], by simp, by simp, hown, hbel⟩
  case round =>
    obtain ⟨m, hm2, hm, rfl, ys, hyl, hu, ho, hbl⟩ := hrel
    by_cases hlt : m < s.size
    · have hlt1 : m + 1 < s.size := by omega
      have hst := unh_step (letters s) m ys (by rw [HN.out]; omega) hu
      have D1 := fun W => rdigit_quiet ((s[m].toNat : Nat) : Int) W (by omega) (by have := s[m].toNat_lt; omega)
      have D2 := fun W => rdigit_quiet ((s[m + 1].toNat : Nat) : Int) W (by omega) (by have := s[m + 1].toNat_lt; omega)
      rw [HA.out m hlt, HA.out (m + 1) hlt1] at hst
      have b1 := dg_bd ((s[m].toNat : Nat) : Int)
      have b2 := dg_bd ((s[m + 1].toNat : Nat) : Int)
      generalize dg ((s[m].toNat : Nat) : Int) = a at *
      generalize dg ((s[m + 1].toNat : Nat) : Int) = b at *
      have E1 := hidden D1
      have E2 := hidden D2
      have HST := hidden hst
      have HO := hidden ho
      have HB := hidden hbl
      have f1 : IntKind.i64.wrap ((m : Int) + 1) = (m : Int) + 1 := IntWalk.i64_in _ (by omega)
      have f2 : 0 ≤ (m : Int) + 1 := by omega
      have f3 : ((m : Int) + 1).toNat = m + 1 := by omega
      have f4 : (m : Int) + 1 < (s.size : Int) := by omega
      have f5 : (m : Int) < (s.size : Int) := by omega
      clear D1 D2 hst ho hbl hu hown hbel
      go_wp2
      go_quiet ((go_at_call 32; first | (with_reducible exact Calls.quiet_of_same (E1.out _)) | (with_reducible exact Calls.quiet_of_same (E2.out _))))
      clear f1
      generalize hwq : wr.drewN _ = wq
      have HO2 := hidden (show Own wq w.heap.size 5 u4 ys by rw [← hwq]; exact HO.out)
      have HB2 := hidden (show Below w.heap.size w wq by rw [← hwq]; exact HB.out.trans (drew_below ⟨_, rfl⟩))
      clear hwq
      by_cases ha : a < 0
      · go_wp2
        go_ret2
        exact ⟨HB2.out, .inr (.inl ⟨by rw [HN.out]; omega, HST.out.1 (.inl ha), rfl⟩)⟩
      by_cases hb : b < 0
      · go_wp2
        go_ret2
        exact ⟨HB2.out, .inr (.inl ⟨by rw [HN.out]; omega, HST.out.1 (.inr hb), rfl⟩)⟩
      have ho := or_nib a b (by omega) (by omega) (by omega) (by omega)
      have HU := hidden (HST.out.2 (by omega))
      go_wp2_with (at_builtin; refine wpList_append_byt _ rfl _ _ 22 rfl w.heap.size 5 i0 (.int .u8 0) Try.underlying22 hi hz0 hz1 hz2 rfl _ _ rfl (HO2.out.alloc _) _ _ _ _ _ rfl (one_byte _ _ (a * 16 + b) ?c0 ?c1) rfl ?c2 ?c3 ?_)
      try (case c0 => omega)
      try (case c1 => (rw [World.cell?_alloc_at _ _ _ _ rfl]; rfl))
      case c2 => omega
      case c3 => have := HB2.out.size; simp; omega
      intro u' w2 hown2 hg2
      have HB3 := hidden ((HB2.out.alloc HB2.out.size _).grown hg2 (by have := HB2.out.size; simp; omega) (fun g hg => (HO2.out.lt g hg).1))
      clear hg2 ho
      go_wp2
      go_roundw
      case rel => exact ⟨m + 2, by omega, by omega, by go_num, _, by simp; omega, HU.out, hown2, HB3.out⟩
      case measure => simp [intOf] <;> omega
    · have hu2 := hidden (unh_end (letters s) ys m (by rw [HN.out]; omega) hu)
      have HO := hidden ho
      have HB := hidden hbl
      clear hu ho hbl hown hbel
      go_wp2
      go_ret2
      exact ⟨HB.out, .inr (.inr ⟨by rw [HN.out]; omega, ys, _, hu2.out, rfl, HO.out⟩)⟩

set_option maxHeartbeats 400000 in
theorem runhex_any (s : ByteArray) (w : World) (hs : s.size ≤ 140737488355328) :
    Calls Try.prog 28 #[.string s] w (RUnhexEnd w (letters s)) := by
  by_cases he : s.size % 2 = 0
  · exact runhex_even s w hs he
  · have HN := hidden (letters_len s)
    have hev : ((s.size : Int) % 2 == 1) = true := by simp; omega
    go_enter Try.func28, Try.ntmps28
    go_wp2
    go_ret2
    exact ⟨Below.refl _ _, .inl ⟨by rw [HN.out]; omega, rfl⟩⟩
end Go.Proofs.Ytnbpangegegccaa
