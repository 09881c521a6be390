/-
  What package selector's checkCount, checkEach and Build return.
-/
import Derived.Test.YtbpmanbpmlkmnaaGreatDoorMZ4
import Derived.Test.YtbpmanbpmlkmnaaGreatDoorMSelHas
namespace Go.Proofs.YtbpmanbpmlkmnaaGreatDoor
open Go.RowKit
set_option linter.unusedVariables false

def cntE (n : Int) : Int := if n = 0 then 8 else if n > 16 then 10 else 0
theorem count_any (n : Int) (w : World) : Calls Tryz.prog 90 #[.int .i64 n] w fun e w' => e = .returned (.int .i64 (cntE n)) ∧ w = w' := by
  unfold cntE
  by_cases h0 : n = 0
  · subst h0
    go_enter Tryz.func90, Tryz.ntmps90
    go_wp2
    go_ret
    exact ⟨rfl, rfl⟩
  have h0' : (n == 0) = false := by simpa using h0
  rw [if_neg h0]
  by_cases h1 : n > 16
  · rw [if_pos h1]
    go_enter Tryz.func90, Tryz.ntmps90
    go_wp2
    go_ret
    exact ⟨rfl, rfl⟩
  · rw [if_neg h1]
    go_enter Tryz.func90, Tryz.ntmps90
    go_wp2
    go_ret
    exact ⟨rfl, rfl⟩

theorem errL_drop (l : List Sl) (j : Nat) (hj : j < l.length) : errL (l.drop j) = if checkS l[j] ≠ 0 then checkS l[j] else errL (l.drop (j + 1)) := by
  rw [List.drop_eq_getElem_cons hj]
  rfl
/-- The selector at a place of a list that is read. -/
theorem rd_sl {w : World} {p : Option Addr} {n c : Nat} {l : List Sl} (h : RdG KSl DSlr w p n c l) (j : Nat) (hj : j < l.length) : ∃ g, p = some ⟨g, 0, none⟩ ∧ w.cell? ⟨g, j * 9, none⟩ = some (.int .i64 l[j].p) ∧ w.cell? ⟨g, j * 9 + 1, none⟩ = some (.int .i64 l[j].a) ∧ w.cell? ⟨g, j * 9 + 2, none⟩ = some (.int .i64 l[j].b) ∧ w.cell? ⟨g, j * 9 + 3, none⟩ = some (.int .i64 l[j].lo.f) ∧ w.cell? ⟨g, j * 9 + 4, none⟩ = some (.int .u64 l[j].lo.h) ∧ w.cell? ⟨g, j * 9 + 5, none⟩ = some (.int .u64 l[j].lo.l) ∧ w.cell? ⟨g, j * 9 + 6, none⟩ = some (.int .i64 l[j].hi.f) ∧ w.cell? ⟨g, j * 9 + 7, none⟩ = some (.int .u64 l[j].hi.h) ∧ w.cell? ⟨g, j * 9 + 8, none⟩ = some (.int .u64 l[j].hi.l) ∧ FitS l[j] := by
  obtain ⟨g, e, hc, hok⟩ := h.cell j hj
  exact ⟨g, e, hc 0 _ rfl, hc 1 _ rfl, hc 2 _ rfl, hc 3 _ rfl, hc 4 _ rfl, hc 5 _ rfl, hc 6 _ rfl, hc 7 _ rfl, hc 8 _ rfl, hok⟩

set_option maxHeartbeats 800000 in
set_option maxRecDepth 100000 in
theorem each_any (p : Option Addr) (n c : Nat) (l : List Sl) (w : World) (h : RdG KSl DSlr w p n c l) (E : Int) (hE : errL l = E) :
    Calls Tryz.prog 91 #[.slice p n c] w fun e w' => e = .returned (.int .i64 E) ∧ Below w.heap.size w w' := by
  have HL := hidden h
  have hn := h.le
  have HE := hidden hE
  have HLen := hidden h.len
  clear h hE
  go_enter Tryz.func91, Tryz.ntmps91
  go_wp2
  go_loopw [8] (fun i wr => ∃ j : Nat, j ≤ n ∧ i = .int .i64 j ∧ errL (l.drop j) = E ∧ Below w.heap.size w wr) (fun i _ => n - (intOf i).toNat)
  case atStart => exact ⟨0, by omega, rfl, by rw [List.drop_zero]; exact HE.out, Below.refl _ _⟩
  case round =>
    obtain ⟨j, hj, rfl, he, hb⟩ := hrel
    have HB := hidden hb
    by_cases hlt : j < n
    · have hlt' : (j : Int) < n := by omega
      have hjl : j < l.length := by rw [HLen.out]; exact hlt
      rw [errL_drop l j hjl] at he
      obtain ⟨g, rfl, c0, c1, c2, c3, c4, c5, c6, c7, c8, -⟩ := rd_sl (HL.out.below hb) j hjl
      obtain ⟨s, hs⟩ : ∃ s, l[j] = s := ⟨_, rfl⟩
      rw [hs] at he c0 c1 c2 c3 c4 c5 c6 c7 c8
      obtain ⟨z, hz⟩ : ∃ z, checkS s = z := ⟨_, rfl⟩
      rw [hz] at he
      have HC := hidden (scheck_at s z hz)
      have HHE := hidden he
      have hb9 : j * 9 + 8 ≤ 9223372036854775807 * 9 := by omega
      clear hs hz hjl hb he
      by_cases hz0 : z = 0
      · subst hz0
        go_wp2_with (first
          | (go_at_call 104; (with_reducible refine (HC.out _).mono ?_); rintro e w1 ⟨rfl, hb1⟩; have HB1 := hidden ((HB.out.alloc HB.out.size (.cells #[.int .i64 s.p, .int .i64 s.a, .int .i64 s.b, .int .i64 s.lo.f, .int .u64 s.lo.h, .int .u64 s.lo.l, .int .i64 s.hi.f, .int .u64 s.hi.h, .int .u64 s.hi.l] 98)).trans (hb1.mono (HB.out.alloc HB.out.size (.cells #[.int .i64 s.p, .int .i64 s.a, .int .i64 s.b, .int .i64 s.lo.f, .int .u64 s.lo.h, .int .u64 s.lo.l, .int .i64 s.hi.f, .int .u64 s.hi.h, .int .u64 s.hi.l] 98)).size)); clear hb1)
          | fail)
        go_roundw
        case rel => exact ⟨j + 1, by omega, by go_num, by have := HHE.out; simpa using this, HB1.out⟩
        case measure => simp [intOf]; omega
      · have hz' : (z != 0) = true := by simpa using hz0
        have hEz : z = E := by have := HHE.out; rw [if_pos hz0] at this; exact this
        subst hEz
        clear hz0 HHE HE
        go_wp2_with (first
          | (go_at_call 104; (with_reducible refine (HC.out _).mono ?_); rintro e w1 ⟨rfl, hb1⟩; have HB1 := hidden ((HB.out.alloc HB.out.size (.cells #[.int .i64 s.p, .int .i64 s.a, .int .i64 s.b, .int .i64 s.lo.f, .int .u64 s.lo.h, .int .u64 s.lo.l, .int .i64 s.hi.f, .int .u64 s.hi.h, .int .u64 s.hi.l] 98)).trans (hb1.mono (HB.out.alloc HB.out.size (.cells #[.int .i64 s.p, .int .i64 s.a, .int .i64 s.b, .int .i64 s.lo.f, .int .u64 s.lo.h, .int .u64 s.lo.l, .int .i64 s.hi.f, .int .u64 s.hi.h, .int .u64 s.hi.l] 98)).size)); clear hb1)
          | fail)
        go_ret
        exact ⟨rfl, HB1.out⟩
    · obtain rfl : j = n := by omega
      rw [List.drop_eq_nil_of_le (by rw [HLen.out]; omega)] at he
      have he' : (0 : Int) = E := he
      subst he'
      clear hb he HE
      go_wp2
      go_ret
      exact ⟨rfl, HB.out⟩

/-- What Build returns. -/
def BuiltS (w : World) (L : List Int) (E : Int) (e : Ending) (w' : World) : Prop := ∃ v, e = .returned (.tuple #[v, .int .i64 E]) ∧ Own w' w.heap.size 5 v L ∧ Below w.heap.size w w'
theorem built_none (w w' : World) (L : List Int) (E E' : Int) (h : ([], E) = (L, E')) (hb : Below w.heap.size w w') : BuiltS w L E' (.returned (.tuple #[.slice none 0 0, .int .i64 E])) w' := by
  obtain ⟨rfl, rfl⟩ := Prod.mk.inj h
  exact ⟨_, rfl, Own.nil _ _ _, hb⟩
theorem encL_le : ∀ (l : List Sl), (∀ s ∈ l, GoodS s) → (encL l).length ≤ l.length * 40
  | [], _ => by simp [encL]
  | s :: l, h => by
    have h1 := encL_le l (fun t ht => h t (by simp [ht]))
    have h2 := (one_enc (h s (by simp)) []).2
    simp only [encL, List.length_append, List.length_cons]
    omega
theorem encL_take (l : List Sl) (j : Nat) (hj : j < l.length) : encL (l.take (j + 1)) = encL (l.take j) ++ encO l[j] := by
  rw [List.take_succ_eq_append_getElem hj, encL_append]
  simp [encL]

theorem own_four (w : World) (base : Nat) (hb : base ≤ w.heap.size) (x0 x1 x2 x3 : Int) : Own (w.alloc (.cells #[.int .u8 x0, .int .u8 x1, .int .u8 x2, .int .u8 x3] 5)) base 5 (.slice (some ⟨w.heap.size, 0, none⟩) 4 4) [x0, x1, x2, x3] := by
  have := World.ownsRow_lit (base := base) (e := 5) (size := 1) w #[.int .u8 x0, .int .u8 x1, .int .u8 x2, .int .u8 x3] 4 hb (by unfold maxLen; omega) rfl
  exact this

end Go.Proofs.YtbpmanbpmlkmnaaGreatDoor
