/-
  What wire.Slice returns, for every slice of bytes, place and length.
-/
import Derived.Test.YtnnbfhjbaagnkaaDoorWNumber
import Derived.Test.YtnnbfhjbaagnkaaDoorBod
import Derived.Test.YtnnbfhjbaagnkaaDoorClone
namespace Go.Proofs.YtnnbfhjbaagnkaaDoor
open Go.RowKit
set_option linter.unusedVariables false

/-- The result of a function that returns bytes and a bool. -/
def BytesOk (w : World) (r : List Int × Bool) (e : Ending) (w' : World) : Prop := ∃ p n c, e = .returned (.tuple #[.slice p n c, .bool r.2]) ∧ Byt w' p n c r.1 ∧ Below w.heap.size w w'

/-- The same; the bytes lie in a block of bytes of the call's own. -/
def BodOk (w : World) (r : List Int × Bool) (e : Ending) (w' : World) : Prop := ∃ p n c, e = .returned (.tuple #[.slice p n c, .bool r.2]) ∧ Bod w' w.heap.size p n c r.1 ∧ Below w.heap.size w w'

set_option maxHeartbeats 400000 in
theorem slice_bod (p : Option Addr) (n c : Nat) (xs : List Int) (w : World) (h : Byt w p n c xs) (hb : n ≤ 140737488355328) (a k : Int) (ha : -9223372036854775808 ≤ a ∧ a ≤ 9223372036854775807) (hk : -9223372036854775808 ≤ k ∧ k ≤ 9223372036854775807) :
    Calls Tryd.prog 27 #[.slice p n c, .int .i64 a, .int .i64 k] w (BodOk w (pieceR xs a k)) := by
  have hn := h.le
  by_cases hi : 0 ≤ a ∧ 0 ≤ k ∧ a + k ≤ n
  · obtain ⟨a, rfl⟩ := Int.eq_ofNat_of_zero_le hi.1
    obtain ⟨k, rfl⟩ := Int.eq_ofNat_of_zero_le hi.2.1
    have hin : a + k ≤ n := by omega
    have hcap := h.cap
    have hp := h.part a (a + k) (by omega) hin
    rw [pieceR, if_pos (by have := h.len; omega)]
    have e1 : (xs.take (a + k)).drop a = (xs.drop a).take k := by rw [List.drop_take]; congr 1; omega
    have hr : ∀ x ∈ (xs.drop a).take k, 0 ≤ x ∧ x ≤ 255 := rng_take (rng_drop h.rng _) _
    rw [e1] at hp
    rw [show a + k - a = k by omega] at hp
    have HR := hidden hr
    clear h hi e1 hr
    by_cases hca : c = a
    · subst hca
      obtain rfl : k = 0 := by omega
      rw [if_pos rfl, Nat.sub_self] at hp
      have HB := hidden hp
      clear hp
      go_enter Tryd.func27, Tryd.ntmps27
      go_wp2_with (first | (go_at_call 36; refine (inside_yes _ _ _ _ _ _ (by omega) (by omega) (by omega) (by omega)).mono ?_; rintro e w' ⟨rfl, rfl⟩))
      refine (clone_any _ _ _ _ _ HB.out (by omega)).mono ?_
      rintro e w' ⟨v, rfl, hown, hbel⟩
      go_wp2
      obtain ⟨p', c', rfl, hby⟩ := hown.bod rfl HR.out
      go_ret2
      exact ⟨p', _, c', rfl, hby, hbel⟩
    · rw [if_neg hca] at hp
      have HB := hidden hp
      clear hp
      go_enter Tryd.func27, Tryd.ntmps27
      go_wp2_with (first | (go_at_call 36; refine (inside_yes _ _ _ _ _ _ (by omega) (by omega) (by omega) (by omega)).mono ?_; rintro e w' ⟨rfl, rfl⟩) | (go_at_call 37; refine (clone_any _ _ _ _ _ HB.out (by omega)).mono ?_; rintro e w' ⟨v, rfl, hown, hbel⟩))
      obtain ⟨p', c', rfl, hby⟩ := hown.bod rfl HR.out
      go_ret2
      exact ⟨p', _, c', rfl, hby, hbel⟩
  · rw [pieceR, if_neg (by have := h.len; omega)]
    clear h
    go_enter Tryd.func27, Tryd.ntmps27
    go_wp2_with (first | (go_at_call 36; refine (inside_no _ _ _ _ _ _ (by omega) (by omega) (by omega)).mono ?_; rintro e w' ⟨rfl, rfl⟩))
    go_ret2
    exact ⟨_, _, _, rfl, Bod.nil _ _ _ _ (Nat.zero_le _), Below.refl _ _⟩

theorem slice_any (p : Option Addr) (n c : Nat) (xs : List Int) (w : World) (h : Byt w p n c xs) (hb : n ≤ 140737488355328) (a k : Int) (ha : -9223372036854775808 ≤ a ∧ a ≤ 9223372036854775807) (hk : -9223372036854775808 ≤ k ∧ k ≤ 9223372036854775807) :
    Calls Tryd.prog 27 #[.slice p n c, .int .i64 a, .int .i64 k] w (BytesOk w (pieceR xs a k)) :=
  (slice_bod p n c xs w h hb a k ha hk).mono fun e w' ⟨p', n', c', he, hy, hb⟩ => ⟨p', n', c', he, hy.byt, hb⟩
end Go.Proofs.YtnnbfhjbaagnkaaDoor
