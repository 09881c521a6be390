/-
  The cursor that header.Parse reads with: a field behind the other, and an error that stays.
-/
import Derived.Test.YtjkeijkbekdjfaaWNumber
import Derived.Test.YtjkeijkbekdjfaaCodes
import Derived.Deep.QuietTactic
import Derived.BigQuiet
namespace Go.Proofs.Ytjkeijkbekdjfaa
open Go.RowKit
set_option linter.unusedVariables false

/-- The cursor at block k: its bytes, its place, its error. -/
structure Cur (w : World) (k : Nat) (p : Option Addr) (n c : Nat) (a e : Int) : Prop where
  c0 : w.cell? ⟨k, 0, none⟩ = some (.slice p n c)
  c1 : w.cell? ⟨k, 1, none⟩ = some (.int .i64 a)
  c2 : w.cell? ⟨k, 2, none⟩ = some (.int .i64 e)
  fr : ∀ j, w.frozen? ⟨k, j, none⟩ = false

theorem Cur.lt {w : World} {k : Nat} {p : Option Addr} {n c : Nat} {a e : Int} (h : Cur w k p n c a e) : k < w.heap.size := World.block_lt_of_cell? w _ h.c0
theorem Cur.grown {w w' : World} {k : Nat} {p : Option Addr} {n c : Nat} {a e : Int} {row : Option Nat} (h : Cur w k p n c a e) (hg : w.grownBy w' row) (hne : some k ≠ row) : Cur w' k p n c a e :=
  ⟨hg.cell h.c0 hne, hg.cell h.c1 hne, hg.cell h.c2 hne, fun j => (World.frozen?_of_block (a := ⟨k, j, none⟩) (hg.block k h.lt hne)).trans (h.fr j)⟩
theorem Cur.below {w w' : World} {k : Nat} {p : Option Addr} {n c : Nat} {a e : Int} (h : Cur w k p n c a e) (hb : Below w.heap.size w w') : Cur w' k p n c a e := h.grown (row := none) (grown_of_below hb none) (by simp)
theorem Cur.alloc {w : World} {k : Nat} {p : Option Addr} {n c : Nat} {a e : Int} (h : Cur w k p n c a e) (o : Obj) : Cur (w.alloc o) k p n c a e := h.below ((Below.refl _ _).alloc (Nat.le_refl _) o)
theorem Cur.set_ne {w : World} {k : Nat} {p : Option Addr} {n c : Nat} {a e : Int} (h : Cur w k p n c a e) (g j : Nat) (v : Value) (hne : k ≠ g) : Cur (w.setCell ⟨g, j, none⟩ v) k p n c a e := h.grown (grown_set w g j v) (by simp; exact hne)

theorem Cur.step {w : World} {k : Nat} {p : Option Addr} {n c : Nat} {a e : Int} (h : Cur w k p n c a e) (z : Int) : Cur (w.setCell ⟨k, 1, none⟩ (.int .i64 z)) k p n c z e := by
  obtain ⟨c0, c1, c2, fr⟩ := h
  exact ⟨by go_simp, by go_simp, by go_simp, fun j => by rw [World.frozen?_setCell]; exact fr j⟩
theorem Cur.fail {w : World} {k : Nat} {p : Option Addr} {n c : Nat} {a e : Int} (h : Cur w k p n c a e) (z : Int) : Cur (w.setCell ⟨k, 2, none⟩ (.int .i64 z)) k p n c a z := by
  obtain ⟨c0, c1, c2, fr⟩ := h
  exact ⟨by go_simp, by go_simp, by go_simp, fun j => by rw [World.frozen?_setCell]; exact fr j⟩
theorem val_64 (l : List Int) (h : ∀ x ∈ l, 0 ≤ x ∧ x ≤ 255) (hl : l.length ≤ 8) : 0 ≤ val l ∧ val l ≤ 18446744073709551615 := by
  have h1 := val_bd l h
  have h2 := pow256_le hl
  have h3 : (256 : Int) ^ 8 = 18446744073709551616 := by decide
  omega

set_option maxHeartbeats 400000 in
theorem field_yes (p : Option Addr) (n c : Nat) (xs : List Int) (w : World) (k a d : Nat) (hc : Cur w k p n c a 0) (h : Byt w p n c xs) (h1 : 1 ≤ d) (h8 : d ≤ 8) (hin : a + d ≤ n) :
    Calls Try.prog 26 #[.pointer (some ⟨k, 0, none⟩), .int .i64 d] w fun e w' => e = .returned (.int .u64 (val ((xs.drop a).take d))) ∧ Cur w' k p n c ((a + d : Nat) : Int) 0 ∧ w.grownBy w' (some k) := by
  have hle := h.le
  have E1 := hidden (fun m => (number_yes p n c xs (w.drewN m) (h.below (drew_below ⟨m, rfl⟩)) a d h1 h8 hin).mono (R' := fun e w' => e = .returned (.tuple #[.int .u64 (val ((xs.drop a).take d)), .bool true]) ∧ w' = w.drewN m) (fun e w' ⟨x, y⟩ => ⟨x, y.symm⟩))
  have HC := hidden hc
  obtain ⟨c0, c1, c2, fr⟩ := hc
  clear h
  generalize val ((xs.drop a).take d) = v at E1
  go_enter Try.func26, Try.ntmps26
  go_wp2
  go_quiet ((go_at_call 31; (with_reducible exact Calls.quiet_of_same (E1.out _))))
  go_wp2
  go_ret
  refine ⟨rfl, ?_, grown_trans (grown_drewN _ _ _) (grown_set _ k 1 _)⟩
  have := (HC.out.below (drew_below (B := w.heap.size) ⟨nq, rfl⟩)).step ((a : Int) + d)
  exact this

/-- A cursor that has stopped, or that has read S bytes. -/
def Part (w : World) (k : Nat) (p : Option Addr) (n c S : Nat) : Prop := ∃ a e, Cur w k p n c a e ∧ ((e = 0 ∧ a = S ∧ S ≤ n) ∨ e = 1)
theorem Part.grown {w w' : World} {k : Nat} {p : Option Addr} {n c S : Nat} {row : Option Nat} (h : Part w k p n c S) (hg : w.grownBy w' row) (hne : some k ≠ row) : Part w' k p n c S := by
  obtain ⟨a, e, hc, h⟩ := h
  exact ⟨a, e, hc.grown hg hne, h⟩
theorem Part.set_ne {w : World} {k : Nat} {p : Option Addr} {n c S : Nat} (h : Part w k p n c S) (g j : Nat) (v : Value) (hne : k ≠ g) : Part (w.setCell ⟨g, j, none⟩ v) k p n c S := h.grown (grown_set w g j v) (by simp; exact hne)

set_option maxHeartbeats 400000 in
theorem field_some (p : Option Addr) (n c : Nat) (xs : List Int) (w : World) (k S d N : Nat) (hp : Part w k p n c S) (h : Byt w p n c xs) (h1 : 1 ≤ d) (h8 : d ≤ 8) (hN : S + d = N) (M : Int) (hM : (256 : Int) ^ d ≤ M + 1) (hM0 : 0 ≤ M) :
    Calls Try.prog 26 #[.pointer (some ⟨k, 0, none⟩), .int .i64 d] w fun e w' => ∃ z : Int, e = .returned (.int .u64 z) ∧ 0 ≤ z ∧ z ≤ M ∧ Part w' k p n c N ∧ w.grownBy w' (some k) := by
  subst hN
  obtain ⟨a, e, hc, he⟩ := hp
  rcases he with ⟨rfl, rfl, hS⟩ | rfl
  · by_cases hin : S + d ≤ n
    · refine (field_yes p n c xs w k S d hc h h1 h8 hin).mono ?_
      rintro e w' ⟨rfl, hc', hg⟩
      have hb := val_bd ((xs.drop S).take d) (rng_take (rng_drop h.rng _) _)
      have hlen : ((xs.drop S).take d).length = d := by have := h.len; simp; omega
      rw [hlen] at hb
      exact ⟨_, rfl, hb.1, by omega, ⟨_, _, hc', Or.inl ⟨rfl, rfl, hin⟩⟩, hg⟩
    · have hle := h.le
      have hlen := h.len
      have hnum : numR xs S d = (0, false) := by rw [numR, if_neg (by omega)]
      have E1 := hidden (fun m => (number_any p n c xs (w.drewN m) (h.below (drew_below ⟨m, rfl⟩)) S d (by omega) (by omega)).mono (R' := fun e w' => e = .returned (.tuple #[.int .u64 0, .bool false]) ∧ w' = w.drewN m) (fun e w' ⟨x, y⟩ => ⟨by rw [x, hnum], y.symm⟩))
      have HC := hidden hc
      obtain ⟨c0, c1, c2, fr⟩ := hc
      clear h hnum
      go_enter Try.func26, Try.ntmps26
      go_wp2
      go_quiet ((go_at_call 31; (with_reducible exact Calls.quiet_of_same (E1.out _))))
      go_wp2
      go_ret
      refine ⟨0, rfl, by omega, by omega, ⟨(S : Int), 1, ?_, Or.inr rfl⟩, grown_trans (grown_drewN _ _ _) (grown_set _ k 2 _)⟩
      have := (HC.out.below (drew_below (B := w.heap.size) ⟨nq, rfl⟩)).fail 1
      exact this
  · have HC := hidden hc
    obtain ⟨c0, c1, c2, fr⟩ := hc
    clear h
    go_enter Try.func26, Try.ntmps26
    go_wp2
    go_ret
    exact ⟨0, rfl, by omega, by omega, ⟨_, 1, HC.out, Or.inr rfl⟩, grown_refl _ _⟩
end Go.Proofs.Ytjkeijkbekdjfaa
