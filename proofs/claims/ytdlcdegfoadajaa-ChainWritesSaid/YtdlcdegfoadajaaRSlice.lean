/-
  What the document's own Slice returns, for every slice of bytes, place and length.
-/
import Derived.Test.YtdlcdegfoadajaaBod
import Derived.Test.YtdlcdegfoadajaaNum
namespace Go.Proofs.Ytdlcdegfoadajaa
open Go.RowKit
set_option linter.unusedVariables false

/-- The result of a function that returns bytes of its own and a bool. -/
def BytesOkR (w : World) (r : List Int × Bool) (e : Ending) (w' : World) : Prop := ∃ p n c, e = .returned (.tuple #[.slice p n c, .bool r.2]) ∧ Byt w' p n c r.1 ∧ Below w.heap.size w w'

/-- The same; the bytes lie in a block of bytes of the call's own. -/
def BodOkR (w : World) (r : List Int × Bool) (e : Ending) (w' : World) : Prop := ∃ p n c, e = .returned (.tuple #[.slice p n c, .bool r.2]) ∧ Bod w' w.heap.size p n c r.1 ∧ Below w.heap.size w w'

set_option maxHeartbeats 400000 in
theorem rslice_bod (p : Option Addr) (n c : Nat) (xs : List Int) (w : World) (h : Byt w p n c xs) (hb : n ≤ 140737488355328) (a k : Int) (ha : -9223372036854775808 ≤ a ∧ a ≤ 9223372036854775807) (hk : -9223372036854775808 ≤ k ∧ k ≤ 9223372036854775807) :
    Calls Try.prog 28 #[.slice p n c, .int .i64 a, .int .i64 k] w (BodOkR w (pieceR xs a k)) := by
  have hn := h.le
  obtain ⟨i0, hi, hz0, hz1, hz2⟩ := info_parts Try.infoByte
  by_cases hin : 0 ≤ a ∧ 0 ≤ k ∧ a + k ≤ n
  · obtain ⟨a, rfl⟩ := Int.eq_ofNat_of_zero_le hin.1
    obtain ⟨k, rfl⟩ := Int.eq_ofNat_of_zero_le hin.2.1
    have hin : a + k ≤ n := by omega
    have hcap := h.cap
    have hp := h.part a (a + k) (by omega) hin
    rw [pieceR, if_pos (by have := h.len; omega)]
    have e1 : (xs.take (a + k)).drop a = (xs.drop a).take k := by rw [List.drop_take]; congr 1; omega
    have hr : ∀ x ∈ (xs.drop a).take k, 0 ≤ x ∧ x ≤ 255 := rng_take (rng_drop h.rng _) _
    rw [e1] at hp
    rw [show a + k - a = k by omega] at hp
    have HR := hidden hr
    clear h e1 hr
    by_cases hca : c = a
    · subst hca
      obtain rfl : k = 0 := by omega
      rw [if_pos rfl, Nat.sub_self] at hp
      have HB := hidden hp
      clear hp
      go_enter Try.func28, Try.ntmps28
      go_wp2_with (at_builtin; refine wpList_append_byt _ rfl _ _ 22 rfl w.heap.size 5 i0 (.int .u8 0) Try.underlying22 hi hz0 hz1 hz2 rfl _ _ rfl (Own.nil w w.heap.size 5) _ _ _ _ _ rfl HB.out ?c0 ?c1 (Nat.le_refl _) ?_)
      case c0 => first | rfl | omega
      case c1 => simp
      intro v w1 hown hg
      obtain ⟨p', c', rfl, hby⟩ := hown.bod rfl HR.out
      have hbel := (Below.refl w.heap.size w).grown hg (Nat.le_refl _) (by intro k hk; simp [Value.ownBlock] at hk)
      go_wp2
      go_ret2
      exact ⟨p', _, c', rfl, hby, hbel⟩
    · rw [if_neg hca] at hp
      have HB := hidden hp
      clear hp
      go_enter Try.func28, Try.ntmps28
      go_wp2_with (at_builtin; (refine wpList_append_byt _ rfl _ _ 22 rfl w.heap.size 5 i0 (.int .u8 0) Try.underlying22 hi hz0 hz1 hz2 rfl _ _ rfl (Own.nil w w.heap.size 5) _ _ _ _ _ rfl HB.out ?c0 ?c1 (Nat.le_refl _) ?_))
      case c0 => omega
      case c1 => simp; omega
      intro v w1 hown hg
      obtain ⟨p', c', rfl, hby⟩ := hown.bod rfl HR.out
      have hbel := (Below.refl w.heap.size w).grown hg (Nat.le_refl _) (by intro k hk; simp [Value.ownBlock] at hk)
      go_wp2
      go_ret2
      exact ⟨p', _, c', rfl, hby, hbel⟩
  · rw [pieceR, if_neg (by have := h.len; omega)]
    clear h
    have fin : BodOkR w ([], false) (.returned (.tuple #[.slice none 0 0, .bool false])) w := ⟨_, _, _, rfl, Bod.nil _ _ _ _ (Nat.zero_le _), Below.refl _ _⟩
    have FIN := hidden fin
    clear fin
    by_cases h1 : a < 0
    · go_enter Try.func28, Try.ntmps28
      go_wp2
      go_ret2
      exact FIN.out
    by_cases h2 : k < 0
    · go_enter Try.func28, Try.ntmps28
      go_wp2
      go_ret2
      exact FIN.out
    by_cases h3 : n < a
    · go_enter Try.func28, Try.ntmps28
      go_wp2
      go_ret2
      exact FIN.out
    have h5 : (n : Int) - a < k := by omega
    clear hin
    go_enter Try.func28, Try.ntmps28
    go_wp2
    go_ret2
    exact FIN.out

theorem rslice_any (p : Option Addr) (n c : Nat) (xs : List Int) (w : World) (h : Byt w p n c xs) (hb : n ≤ 140737488355328) (a k : Int) (ha : -9223372036854775808 ≤ a ∧ a ≤ 9223372036854775807) (hk : -9223372036854775808 ≤ k ∧ k ≤ 9223372036854775807) :
    Calls Try.prog 28 #[.slice p n c, .int .i64 a, .int .i64 k] w (BytesOkR w (pieceR xs a k)) :=
  (rslice_bod p n c xs w h hb a k ha hk).mono fun e w' ⟨p', n', c', he, hy, hb⟩ => ⟨p', n', c', he, hy.byt, hb⟩
end Go.Proofs.Ytdlcdegfoadajaa
