/-
  Which slices are the same: slices.Equal and slices.EqualFunc at the types that package payload compares, and the document's own Same of proposals and of selectors: each says yes just where the lists read alike.
-/
import Derived.Test.YtbpmanbpmlkmnaaGreatDoorMZ0
import Derived.Test.YtbpmanbpmlkmnaaGreatDoorMZ4
import Derived.Test.YtbpmanbpmlkmnaaGreatDoorMSelBuild
import Derived.Test.YtbpmanbpmlkmnaaGreatDoorMZ1
import Derived.Deep.QuietTactic
import Derived.BigQuiet
namespace Go.Proofs.YtbpmanbpmlkmnaaGreatDoor
open Go.RowKit
set_option linter.unusedVariables false

theorem take_next {α : Type} {la lb : List α} {j : Nat} (ha : j < la.length) (hb : j < lb.length) (h : la.take j = lb.take j) (e : la[j] = lb[j]) : la.take (j + 1) = lb.take (j + 1) := by
  rw [← List.take_append_getElem ha, ← List.take_append_getElem hb, h, e]
theorem take_whole {α : Type} {la lb : List α} {n : Nat} (ha : la.length = n) (hb : lb.length = n) (h : la.take n = lb.take n) : la = lb := by
  rw [List.take_of_length_le (by omega), List.take_of_length_le (by omega)] at h
  exact h
theorem differ_at {α : Type} {la lb : List α} {j : Nat} (ha : j < la.length) (hb : j < lb.length) (e : la[j] ≠ lb[j]) : la ≠ lb := fun h => e (by subst h; rfl)
theorem differ_len {α : Type} {la lb : List α} {n m : Nat} (ha : la.length = n) (hb : lb.length = m) (h : n ≠ m) : la ≠ lb := fun e => h (by rw [← ha, ← hb, e])
theorem ne_trN (w : World) (x y : Tr) (h : x ≠ y) : (binOp .neq 107 (.agg #[.int .i64 x.t, .int .i64 x.i, .int .i64 x.k]) (.agg #[.int .i64 y.t, .int .i64 y.i, .int .i64 y.k])).run Tryz.prog w = .ok (.bool true) w := by
  obtain ⟨a0, a1, a2⟩ := x; obtain ⟨b0, b1, b2⟩ := y
  by_cases e0 : a0 = b0
  rotate_left
  · have f0 : (a0 == b0) = false := by simpa using e0
    go_simp
  subst e0
  by_cases e1 : a1 = b1
  rotate_left
  · have f1 : (a1 == b1) = false := by simpa using e1
    go_simp
  subst e1
  have e2 : ¬ a2 = b2 := fun e => h (by rw [e])
  have f2 : (a2 == b2) = false := by simpa using e2
  go_simp
theorem ne_slN (w : World) (x y : Sl) (h : x ≠ y) : (binOp .neq 98 (.agg #[.int .i64 x.p, .int .i64 x.a, .int .i64 x.b, .int .i64 x.lo.f, .int .u64 x.lo.h, .int .u64 x.lo.l, .int .i64 x.hi.f, .int .u64 x.hi.h, .int .u64 x.hi.l]) (.agg #[.int .i64 y.p, .int .i64 y.a, .int .i64 y.b, .int .i64 y.lo.f, .int .u64 y.lo.h, .int .u64 y.lo.l, .int .i64 y.hi.f, .int .u64 y.hi.h, .int .u64 y.hi.l])).run Tryz.prog w = .ok (.bool true) w := by
  obtain ⟨a0, a1, a2, ⟨a3, a4, a5⟩, ⟨a6, a7, a8⟩⟩ := x; obtain ⟨b0, b1, b2, ⟨b3, b4, b5⟩, ⟨b6, b7, b8⟩⟩ := y
  by_cases e0 : a0 = b0
  rotate_left
  · have f0 : (a0 == b0) = false := by simpa using e0
    go_simp
  subst e0
  by_cases e1 : a1 = b1
  rotate_left
  · have f1 : (a1 == b1) = false := by simpa using e1
    go_simp
  subst e1
  by_cases e2 : a2 = b2
  rotate_left
  · have f2 : (a2 == b2) = false := by simpa using e2
    go_simp
  subst e2
  by_cases e3 : a3 = b3
  rotate_left
  · have f3 : (a3 == b3) = false := by simpa using e3
    go_simp
  subst e3
  by_cases e4 : a4 = b4
  rotate_left
  · have f4 : (a4 == b4) = false := by simpa using e4
    go_simp
  subst e4
  by_cases e5 : a5 = b5
  rotate_left
  · have f5 : (a5 == b5) = false := by simpa using e5
    go_simp
  subst e5
  by_cases e6 : a6 = b6
  rotate_left
  · have f6 : (a6 == b6) = false := by simpa using e6
    go_simp
  subst e6
  by_cases e7 : a7 = b7
  rotate_left
  · have f7 : (a7 == b7) = false := by simpa using e7
    go_simp
  subst e7
  have e8 : ¬ a8 = b8 := fun e => h (by rw [e])
  have f8 : (a8 == b8) = false := by simpa using e8
  go_simp

theorem eq_trN (w : World) (a b c : Int) : (binOp .neq 107 (.agg #[.int .i64 a, .int .i64 b, .int .i64 c]) (.agg #[.int .i64 a, .int .i64 b, .int .i64 c])).run Tryz.prog w = .ok (.bool false) w := by
  go_simp

set_option maxHeartbeats 1600000 in
set_option maxRecDepth 100000 in
theorem same5_any (p q : Option Addr) (n c m d : Nat) (la lb : List Sl) (w : World) (h : RdG KSl DSlr w p n c la) (k : RdG KSl DSlr w q m d lb) :
    Calls Tryz.prog 28 #[.slice p n c, .slice q m d] w fun e w' => e = .returned (.bool (decide (la = lb))) ∧ Below w.heap.size w w' := by
  have hn := h.le
  have hm := k.le
  have H := hidden h
  have K := hidden k
  have HL := hidden h.len
  have KL := hidden k.len
  clear h k
  by_cases hnm : n = m
  rotate_left
  · have hne : ((n : Int) != (m : Int)) = true := by simp; omega
    have hd := decide_eq_false (differ_len HL.out KL.out hnm)
    go_enter Tryz.func28, Tryz.ntmps28
    go_wp2
    go_ret
    exact ⟨by rw [hd]; rfl, Below.refl _ _⟩
  subst hnm
  go_enter Tryz.func28, Tryz.ntmps28
  go_wp2
  go_loopw [5] (fun i wr => ∃ j : Nat, j ≤ n ∧ i = .int .i64 j ∧ la.take j = lb.take j ∧ Below w.heap.size w wr) (fun i _ => n - (intOf i).toNat)
  case atStart => exact ⟨0, by omega, rfl, by simp, Below.refl _ _⟩
  case round =>
    obtain ⟨j, hj, rfl, ht, hb⟩ := hrel
    have HB := hidden hb
    have HT := hidden ht
    clear ht
    by_cases hlt : j < n
    · have hlt' : (j : Int) < n := by omega
      have hja : j < la.length := by rw [HL.out]; exact hlt
      have hjb : j < lb.length := by rw [KL.out]; exact hlt
      obtain ⟨g, rfl, a0, a1, a2, a3, a4, a5, a6, a7, a8, -⟩ := rd_sl (H.out.below hb) j hja
      obtain ⟨g', rfl, b0, b1, b2, b3, b4, b5, b6, b7, b8, -⟩ := rd_sl (K.out.below hb) j hjb
      obtain ⟨x, hx⟩ : ∃ x, la[j] = x := ⟨_, rfl⟩
      obtain ⟨y, hy⟩ : ∃ y, lb[j] = y := ⟨_, rfl⟩
      rw [hx] at a0 a1 a2 a3 a4 a5 a6 a7 a8
      rw [hy] at b0 b1 b2 b3 b4 b5 b6 b7 b8
      by_cases hxy : x = y
      · have HN := hidden (take_next hja hjb HT.out (by rw [hx, hy, hxy]))
        subst hxy
        clear hx hy hja hjb hb HT
        obtain ⟨sp, sa, sb, ⟨lf, lh, ll⟩, ⟨hf, hh, hl⟩⟩ := x
        simp only at a0 a1 a2 a3 a4 a5 a6 a7 a8 b0 b1 b2 b3 b4 b5 b6 b7 b8
        go_wp2
        go_quiet (fail)
        go_wp2
        go_roundw
        case rel => exact ⟨j + 1, by omega, by go_num, HN.out, HB.out.trans (drew_below ⟨_, rfl⟩)⟩
        case measure => simp [intOf]; omega
      · have HD := hidden (decide_eq_false (differ_at hja hjb (by rw [hx, hy]; exact hxy)))
        have hqn := fun w => ne_slN w x y hxy
        clear hx hy hja hjb hb HT hxy
        go_wp2
        go_quiet (fail)
        go_wp2
        go_ret
        exact ⟨by rw [HD.out]; rfl, HB.out.trans (drew_below ⟨_, rfl⟩)⟩
    · obtain rfl : j = n := by omega
      have hd := decide_eq_true (take_whole HL.out KL.out HT.out)
      clear hb
      go_wp2
      go_ret
      exact ⟨by rw [hd]; rfl, HB.out⟩
end Go.Proofs.YtbpmanbpmlkmnaaGreatDoor
