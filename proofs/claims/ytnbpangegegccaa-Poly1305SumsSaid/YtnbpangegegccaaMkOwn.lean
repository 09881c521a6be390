/-
  A list of choices: some bytes, as a row of the call's own; both Sums of a key of any length.
-/
import Derived.Test.YtnbpangegegccaaMkBytes
import Derived.Test.YtnbpangegegccaaRPolySum
import Derived.Test.YtnbpangegegccaaPolyNo
namespace Go.Proofs.Ytnbpangegegccaa
open Go.RowKit
set_option linter.unusedVariables false

set_option maxHeartbeats 800000 in
theorem mbytes_own (W w : World) (k : Nat) (h : Cod W w k) (n : Nat) (hn : n ≤ 100000) :
    Calls Try.prog 9 #[.pointer (some ⟨k, 0, none⟩), .int .i64 n] w fun e w' => ∃ v ys, e = .returned v ∧ ys.length = n ∧ (∀ x ∈ ys, 0 ≤ x ∧ x ≤ 255) ∧ Own w' w.heap.size 5 v ys ∧ Cod W w' k ∧ w.grownBy w' (some k) := by
  obtain ⟨i0, hi, hz0, hz1, hz2⟩ := info_parts Try.infoByte
  have hk := h.lt
  have H := hidden h
  clear h
  go_enter Try.func9, Try.ntmps9
  go_wp2
  go_loopw [5, 6] (fun u i wr => ∃ j : Nat, j ≤ n ∧ i = .int .i64 j ∧ ∃ ys : List Int, ys.length = j ∧ (∀ x ∈ ys, 0 ≤ x ∧ x ≤ 255) ∧ Own wr w.heap.size 5 u ys ∧ Cod W wr k ∧ w.grownBy wr (some k)) (fun _ i _ => n - (intOf i).toNat)
  case atStart => exact ⟨0, by omega, rfl, [], rfl, by simp, Own.nil _ _ _, H.out, grown_refl _ _⟩
  case round =>
    obtain ⟨j, hj, rfl, ys, hl, hr, ho, hc, hg⟩ := hrel
    have HO := hidden ho
    have HR := hidden hr
    have HC := hidden hc
    have HG := hidden hg
    clear ho hr hc hg H
    by_cases hlt : j < n
    · go_wp2_with (go_at_call 15; refine (next_any W _ k HC.out _ ?_).mono ?_; omega)
      rintro e w2 ⟨r, rfl, r0, r1, hc, hg⟩
      have HO2 := hidden (HO.out.kept_row hg hk)
      have HC2 := hidden hc
      have HG2 := hidden (grown_trans HG.out hg)
      clear hc hg HO HC HG
      go_wp2_with (at_builtin; go_loud (refine wpList_append_byt _ rfl _ _ 22 rfl w.heap.size 5 i0 (.int .u8 0) Try.underlying22 hi hz0 hz1 hz2 rfl _ _ rfl (HO2.out.alloc _) _ _ _ _ _ rfl (one_byte _ _ ((r + j * 7) % 256) ?c0 ?c1) rfl ?c2 ?c3 ?_))
      case c0 => omega
      case c1 => rw [World.cell?_alloc_at _ _ _ _ rfl]; rfl
      case c2 => omega
      case c3 => have := HG2.out.size; simp; omega
      intro u w4 hown hg
      have HC4 := hidden ((HC2.out.alloc _).grown hg (fun e => by have := (HO2.out.lt k e.symm).1; omega) (fun j hj => by have := (HO2.out.lt j hj).1; have := HC2.out.bel.size; have := HC2.out.base; omega))
      have HG4 := hidden (grown_own (grown_alloc_new HG2.out _) hg (fun j hj => (HO2.out.lt j hj).1))
      have HO4 := hidden hown
      clear hown hg HO2 HC2 HG2
      go_wp2
      go_roundw
      case rel => exact ⟨j + 1, by omega, by go_num, _, by simp [hl], rng_append HR.out (by intro z hz; simp at hz; omega), HO4.out, HC4.out, HG4.out⟩
      case measure => simp [intOf]; omega
    · obtain rfl : j = n := by omega
      go_wp2
      go_ret
      exact ⟨_, ys, rfl, hl, HR.out, HO.out, HC.out, HG.out⟩

/-- What Sum says. -/
def sumL (key b : List Int) : List Int := if key.length = 32 then tagS key b else []
theorem sumL_rng (key b : List Int) : ∀ x ∈ sumL key b, 0 ≤ x ∧ x ≤ 255 := by
  unfold sumL
  split
  · exact tagS_rng _ _
  · intro x hx; cases hx
theorem psum_any (p r : Option Addr) (k c n e : Nat) (key b : List Int) (w : World) (h : Byt w p k c key) (hb : Byt w r n e b) (hn : n ≤ 100000) :
    Calls Try.prog 10 #[.slice p k c, .slice r n e] w fun en w' => ∃ v, en = .returned (.tuple #[v, .bool (decide (k = 32))]) ∧ Own w' w.heap.size 5 v (sumL key b) ∧ Below w.heap.size w w' := by
  by_cases hk : k = 32
  · subst hk
    refine (psum_yes p r c n e key b w h hb (by omega)).mono ?_
    rintro en w' ⟨v, he, ho, hbl⟩
    refine ⟨v, by rw [he]; rfl, ?_, hbl⟩
    unfold sumL
    rw [if_pos h.len]
    exact ho
  · refine (psum_no p r k c n e w hk).mono ?_
    rintro en w' ⟨he, rfl⟩
    refine ⟨.slice none 0 0, by rw [he, show decide (k = 32) = false by simp [hk]], ?_, Below.refl _ _⟩
    unfold sumL
    rw [if_neg (by rw [h.len]; exact hk)]
    exact Own.nil _ _ _
theorem rsum_any (p r : Option Addr) (k c n e : Nat) (key b : List Int) (w : World) (h : Byt w p k c key) (hb : Byt w r n e b) (hn : n ≤ 100000) :
    Calls Try.prog 11 #[.slice p k c, .slice r n e] w fun en w' => ∃ v, en = .returned (.tuple #[v, .bool (decide (k = 32))]) ∧ Own w' w.heap.size 5 v (sumL key b) ∧ Below w.heap.size w w' := by
  by_cases hk : k = 32
  · subst hk
    refine (rsum_yes p r c n e key b w h hb (by omega)).mono ?_
    rintro en w' ⟨v, he, ho, hbl⟩
    refine ⟨v, by rw [he]; rfl, ?_, hbl⟩
    unfold sumL
    rw [if_pos h.len]
    exact ho
  · refine (rsum_no p r k c n e w hk).mono ?_
    rintro en w' ⟨he, rfl⟩
    refine ⟨.slice none 0 0, by rw [he, show decide (k = 32) = false by simp [hk]], ?_, Below.refl _ _⟩
    unfold sumL
    rw [if_neg (by rw [h.len]; exact hk)]
    exact Own.nil _ _ _
end Go.Proofs.Ytnbpangegegccaa
