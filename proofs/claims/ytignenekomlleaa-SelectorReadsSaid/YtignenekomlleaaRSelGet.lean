/-
  What the document's own package reads of an address.
-/
import Derived.Test.YtignenekomlleaaSelRead1
import Derived.Test.YtignenekomlleaaRNumber
import Derived.Test.YtignenekomlleaaMkAddr
namespace Go.Proofs.Ytignenekomlleaa
open Go.RowKit
set_option linter.unusedVariables false

theorem ret_adok {fn : Func} {R : Ending → World → Prop} {a : Act} {w : World} {p u : Nat} {g : Nat} {x : Ad} {v : Value} (h : fn.results = #[.cell p 46, .tmp u]) (hp : a.tmps.getD p undef = .pointer (some ⟨g, 0, none⟩)) (hu : a.tmps.getD u undef = v) (hd : a.defers = [])
    (hh : AdIn w g x) (hR : R (.returned (.tuple #[(.agg #[.int .i64 x.f, .int .u64 x.h, .int .u64 x.l]), v])) w) : bodyPost Try.prog fn R .ret a w := by
  refine bodyPost_ret (v := .tuple #[(.agg #[.int .i64 x.f, .int .u64 x.h, .int .u64 x.l]), v]) ?_ hd hR
  rw [results_cell_tmp h]
  simp only [hp]
  simp [Result.andThen, hu, asAddr, load_ad hh]

theorem rnum_b (p : Option Addr) (n c : Nat) (xs : List Int) (w : World) (h : Byt w p n c xs) (a k : Nat) (A K : Int) (hA : A = a) (hK : K = k) (h1 : 1 ≤ k) (h8 : k ≤ 8) (hin : a + k ≤ n) :
    Calls Try.prog 50 #[.slice p n c, .int .i64 A, .int .i64 K] w fun e w' => e = .returned (.tuple #[.int .u64 (nAt xs a k), .bool true]) ∧ w = w' := by
  subst hA hK
  exact rnumber_yes p n c xs w h a k h1 h8 hin

theorem rget4_any (p : Option Addr) (n c : Nat) (xs : List Int) (w : World) (h : Byt w p n c xs) (a : Nat) (A : Int) (hA : A = a) (hin : a + 4 ≤ n) :
    Calls Try.prog 51 #[.slice p n c, .int .i64 A, .int .i64 4] w fun e w' => e = .returned (.tuple #[.agg #[.int .i64 4, .int .u64 0, .int .u64 (nAt xs a 4)], .bool true]) ∧ Below w.heap.size w w' := by
  subst hA
  have hn := h.le
  have HN := hidden (rnum_b p n c xs _ (h.alloc (.cells #[.int .i64 0, .int .u64 0, .int .u64 0] 46)) a 4 a 4 rfl rfl (by omega) (by omega) (by omega))
  have HB := hidden ((Below.refl w.heap.size w).alloc (Nat.le_refl _) (.cells #[.int .i64 0, .int .u64 0, .int .u64 0] 46))
  clear h
  go_enter Try.func51, Try.ntmps51
  go_wp2_with (first
    | (go_at_call 50; (with_reducible refine (HN.out).mono ?_); rintro e w' ⟨rfl, rfl⟩)
    | fail)
  refine ret_adok (g := w.heap.size) (x := ⟨4, 0, nAt xs a 4⟩) rfl rfl rfl rfl ?_ ?_
  · exact ⟨by go_simp, by go_simp, by go_simp, fun j => by go_simp⟩
  · exact ⟨rfl, (Below.refl _ _).alloc (Nat.le_refl _) _⟩
theorem rget6_any (p : Option Addr) (n c : Nat) (xs : List Int) (w : World) (h : Byt w p n c xs) (a : Nat) (A : Int) (hA : A = a) (hin : a + 16 ≤ n) :
    Calls Try.prog 51 #[.slice p n c, .int .i64 A, .int .i64 6] w fun e w' => e = .returned (.tuple #[.agg #[.int .i64 6, .int .u64 (nAt xs a 8), .int .u64 (nAt xs (a + 8) 8)], .bool true]) ∧ Below w.heap.size w w' := by
  subst hA
  have hn := h.le
  have HN := hidden (rnum_b p n c xs _ (h.alloc (.cells #[.int .i64 0, .int .u64 0, .int .u64 0] 46)) a 8 a 8 rfl rfl (by omega) (by omega) (by omega))
  have HM := hidden (rnum_b p n c xs _ (h.alloc (.cells #[.int .i64 0, .int .u64 0, .int .u64 0] 46)) (a + 8) 8 ((a : Int) + 8) 8 (by omega) rfl (by omega) (by omega) (by omega))
  have HB := hidden ((Below.refl w.heap.size w).alloc (Nat.le_refl _) (.cells #[.int .i64 0, .int .u64 0, .int .u64 0] 46))
  have hw : IntKind.i64.wrap ((a : Int) + 8) = (a : Int) + 8 := by rw [IntKind.wrap_i64]; omega
  clear h
  go_enter Try.func51, Try.ntmps51
  go_wp2_with (first
    | (go_at_call 50; (first | (with_reducible refine (HN.out).mono ?_) | (with_reducible refine (HM.out).mono ?_)); rintro e w' ⟨rfl, rfl⟩)
    | fail)
  refine ret_adok (g := w.heap.size) (x := ⟨6, nAt xs a 8, nAt xs (a + 8) 8⟩) rfl rfl rfl rfl ?_ ?_
  · exact ⟨by go_simp, by go_simp, by go_simp, fun j => by go_simp⟩
  · exact ⟨rfl, (Below.refl _ _).alloc (Nat.le_refl _) _⟩
end Go.Proofs.Ytignenekomlleaa
