/-
  A list of choices: an int; ints that lie in a block; growing worlds.
  A list of choices: some bytes.
  A list of choices: a number of 64 bits.
-/
import Derived.Test.YtgpigjoonhghhaaDoorQACodes2
import Derived.Test.YtgpigjoonhghhaaDoorQAZ2
namespace Go.Proofs.YtgpigjoonhghhaaDoor
open Go.RowKit
set_option linter.unusedVariables false
theorem grown_alloc_new {a b : World} {row : Option Nat} (h : a.grownBy b row) (o : Obj) : a.grownBy (b.alloc o) row := grown_trans h (World.grownBy_alloc b o row)
theorem grown_own {a b c : World} {row row' : Option Nat} (h : a.grownBy b row) (hg : b.grownBy c row') (hr : ∀ j, row' = some j → a.heap.size ≤ j) : a.grownBy c row :=
  ⟨hg.os.trans h.os, hg.tape.trans h.tape, hg.output.trans h.output, Nat.le_trans h.size hg.size, fun i hi hne => (hg.block i (Nat.lt_of_lt_of_le hi h.size) (fun e => by have := hr i e.symm; omega)).trans (h.block i hi hne)⟩
end Go.Proofs.YtgpigjoonhghhaaDoor

namespace Go.Proofs.YtgpigjoonhghhaaDoor
open Go.RowKit
set_option linter.unusedVariables false
theorem Own.kept_row {w w' : World} {base : Nat} {e : TypeId} {v : Value} {xs : List Int} {k : Nat} (h : Own w base e v xs) (hg : w.grownBy w' (some k)) (hk : k < base) : Own w' base e v xs :=
  World.ownsRow.kept h hg (by
    rcases hv : v.ownBlock with _ | b
    · exact Or.inl rfl
    · have := (h.lt b hv).1
      exact Or.inr (by simp; omega))
set_option maxHeartbeats 800000 in
theorem mbytes_any (W w : World) (k : Nat) (h : Cod W w k) (n : Nat) (hn : n ≤ 100000) :
    Calls Tryd.prog 28 #[.pointer (some ⟨k, 0, none⟩), .int .i64 n] w fun e w' => ∃ p c ys, e = .returned (.slice p n c) ∧ Bod w' w.heap.size p n c ys ∧ Cod W w' k ∧ w.grownBy w' (some k) := by
  obtain ⟨i0, hi, hz0, hz1, hz2⟩ := info_parts Tryd.infoByte
  have hk := h.lt
  have H := hidden h
  clear h
  go_enter Tryd.func28, Tryd.ntmps28
  go_wp2
  go_loopw [5, 6] (fun u i wr => ∃ j : Nat, j ≤ n ∧ i = .int .i64 j ∧ ∃ ys : List Int, ys.length = j ∧ (∀ x ∈ ys, 0 ≤ x ∧ x ≤ 255) ∧ Own wr w.heap.size 5 u ys ∧ Cod W wr k ∧ w.grownBy wr (some k)) (fun _ i _ => n - (intOf i).toNat)
  case atStart => exact ⟨0, by omega, rfl, [], rfl, by simp, Own.nil _ _ _, H.out, grown_refl _ _⟩
  case round =>
    obtain ⟨j, hj, rfl, ys, hl, hr, ho, hc, hg⟩ := hrel
    have HO := hidden ho
    have HR := hidden hr
    have HC := hidden hc
    have HG := hidden hg
    clear ho hr hc hg H
    by_cases hlt : j < n
    · go_wp2_with (go_at_call 29; refine (next_any W _ k HC.out _ ?_).mono ?_; omega)
      rintro e w2 ⟨r, rfl, r0, r1, hc, hg⟩
      have HO2 := hidden (HO.out.kept_row hg hk)
      have HC2 := hidden hc
      have HG2 := hidden (grown_trans HG.out hg)
      clear hc hg HO HC HG
      go_wp2_with (at_builtin; go_loud (refine wpList_append_byt _ rfl _ _ 22 rfl w.heap.size 5 i0 (.int .u8 0) Tryd.underlying22 hi hz0 hz1 hz2 rfl _ _ rfl (HO2.out.alloc _) _ _ _ _ _ rfl (one_byte _ _ ((r + j * 7) % 256) ?c0 ?c1) rfl ?c2 ?c3 ?_))
      case c0 => omega
      case c1 => rw [World.cell?_alloc_at _ _ _ _ rfl]; rfl
      case c2 => omega
      case c3 => have := HG2.out.size; simp; omega
      intro u w4 hown hg
      have HC4 := hidden ((HC2.out.alloc _).grown hg (fun e => by have := (HO2.out.lt k e.symm).1; omega) (fun j hj => by have := (HO2.out.lt j hj).1; have := HC2.out.bel.size; have := HC2.out.base; omega))
      have HG4 := hidden (grown_own (grown_alloc_new HG2.out _) hg (fun j hj => (HO2.out.lt j hj).1))
      have HO4 := hidden hown
      clear hown hg HO2 HC2 HG2
      go_wp2
      go_roundw
      case rel => exact ⟨j + 1, by omega, by go_num, _, by simp [hl], rng_append HR.out (by intro z hz; simp at hz; omega), HO4.out, HC4.out, HG4.out⟩
      case measure => simp [intOf]; omega
    · obtain rfl : j = n := by omega
      obtain ⟨p, c, rfl, hb⟩ := HO.out.bod hl HR.out
      have HB := hidden hb
      clear hb HO HR
      go_wp2
      go_ret
      exact ⟨p, c, ys, rfl, HB.out, HC.out, HG.out⟩
end Go.Proofs.YtgpigjoonhghhaaDoor

namespace Go.Proofs.YtgpigjoonhghhaaDoor
open Go.RowKit
set_option linter.unusedVariables false
set_option maxHeartbeats 400000 in
theorem word_any (W w : World) (k : Nat) (h : Cod W w k) :
    Calls Tryd.prog 43 #[.pointer (some ⟨k, 0, none⟩)] w fun e w' => ∃ r : Int, e = .returned (.int .u64 r) ∧ 0 ≤ r ∧ r ≤ 18446744073709551615 ∧ Cod W w' k ∧ w.grownBy w' (some k) := by
  have H := hidden h
  clear h
  go_enter Tryd.func43, Tryd.ntmps43
  go_wp2_with (go_at_call 29; refine (next_any W _ k H.out _ ?_).mono ?_; omega)
  rintro e w1 ⟨r, rfl, r0, r1, hc, hg⟩
  have HC := hidden hc
  have HG := hidden hg
  clear hc hg H
  by_cases h0 : r = 0
  · subst h0
    go_wp2_with (go_at_call 29; refine (next_any W _ k HC.out _ ?_).mono ?_; omega; rintro e w2 ⟨r2, rfl, r3, r4, hc2, hg2⟩; have HC2 := hidden hc2; have HG2 := hidden (grown_trans HG.out hg2); clear hc2 hg2)
    go_ret
    exact ⟨r2, rfl, r3, by omega, HC2.out, HG2.out⟩
  by_cases h1 : r = 1
  · subst h1
    go_wp2_with (go_at_call 29; refine (next_any W _ k HC.out _ ?_).mono ?_; omega; rintro e w2 ⟨r2, rfl, r3, r4, hc2, hg2⟩; have HC2 := hidden hc2; have HG2 := hidden (grown_trans HG.out hg2); clear hc2 hg2)
    go_ret
    exact ⟨18446744073709551615 - r2, rfl, by omega, by omega, HC2.out, HG2.out⟩
  have e0 : (r == 0) = false := by simpa using h0
  have e1 : (r == 1) = false := by simpa using h1
  go_wp2
  go_loopw [3, 4] (fun v i wr => ∃ j : Nat, j ≤ 8 ∧ i = .int .i64 j ∧ ∃ z : Int, v = .int .u64 z ∧ 0 ≤ z ∧ z ≤ 18446744073709551615 ∧ Cod W wr k ∧ w.grownBy wr (some k)) (fun _ i _ => 8 - (intOf i).toNat)
  case atStart => exact ⟨0, by omega, rfl, 0, rfl, by omega, by omega, HC.out, HG.out⟩
  case round =>
    obtain ⟨j, hj, rfl, z, rfl, z0, z1, hc, hg⟩ := hrel
    have HC1 := hidden hc
    have HG1 := hidden hg
    clear hc hg HC HG
    by_cases hlt : j < 8
    · go_wp2_with (go_at_call 29; refine (next_any W _ k HC1.out _ ?_).mono ?_; omega; rintro e w2 ⟨r2, rfl, r3, r4, hc2, hg2⟩; have HC2 := hidden hc2; have HG2 := hidden (grown_trans HG1.out hg2); clear hc2 hg2)
      go_roundw
      case rel => exact ⟨j + 1, by omega, by go_num, _, rfl, bits_lo_u64 _ _ _, bits_hi_u64 _ _ _, HC2.out, HG2.out⟩
      case measure => simp [intOf]; omega
    · obtain rfl : j = 8 := by omega
      go_wp2
      go_ret
      exact ⟨z, rfl, z0, z1, HC1.out, HG1.out⟩
end Go.Proofs.YtgpigjoonhghhaaDoor
