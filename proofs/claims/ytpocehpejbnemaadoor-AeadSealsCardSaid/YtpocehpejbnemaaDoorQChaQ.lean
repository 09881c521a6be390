/-
  Four words mixed: math/bits.RotateLeft32, chacha.Quarter, and the document's turn and Quarter.
-/
import Derived.Test.YtpocehpejbnemaaDoorQChaMath
import Derived.WalkKit
namespace Go.Proofs.YtpocehpejbnemaaDoor
open Go.RowKit
set_option linter.unusedVariables false

theorem and31p : ∀ n : Fin 31, bits .and .u64 ((n.val : Int) + 1) 31 = (n.val : Int) + 1 := by decide +kernel
theorem and31p' (k : Int) (h1 : 1 ≤ k) (h2 : k ≤ 31) : bits .and .u64 k 31 = k := by
  have := and31p ⟨(k - 1).toNat, by omega⟩
  have e : (((k - 1).toNat : Nat) : Int) + 1 = k := by omega
  simp only [e] at this
  exact this
theorem left_any (x k : Int) (h1 : 1 ≤ k) (h2 : k ≤ 31) (w : World) :
    Calls Tryd.prog 109 #[.int .u32 x, .int .i64 k] w fun e w' => e = .returned (.int .u32 (rotl x k)) ∧ w = w' := by
  have h := and31p' k h1 h2
  go_enter Tryd.func109, Tryd.ntmps109
  go_wp2
  go_ret
  exact ⟨rfl, rfl⟩
theorem rturn_any (x k : Int) (h1 : 1 ≤ k) (h2 : k ≤ 31) (w : World) :
    Calls Tryd.prog 120 #[.int .u32 x, .int .u64 k] w fun e w' => e = .returned (.int .u32 (rotl x k)) ∧ w = w' := by
  go_enter Tryd.func120, Tryd.ntmps120
  go_wp2
  go_ret
  exact ⟨rfl, rfl⟩
/-- What Quarter returns. -/
def encW (s : W4) : Value := .tuple #[.int .u32 s.a, .int .u32 s.b, .int .u32 s.c, .int .u32 s.d]
theorem results_four {P : Program} {fn : Func} {p q r s : Tmp} (h : fn.results = #[.tmp p, .tmp q, .tmp r, .tmp s]) (tmps : Array Value) (w : World) (v0 v1 v2 v3 : Value)
    (h0 : tmps.getD p undef = v0) (h1 : tmps.getD q undef = v1) (h2 : tmps.getD r undef = v2) (h3 : tmps.getD s undef = v3) :
    (results fn tmps).run P w = .ok (.tuple #[v0, v1, v2, v3]) w := by
  subst h0 h1 h2 h3
  unfold results
  rw [h]
  simp [go_sem]

set_option maxHeartbeats 800000 in
theorem quarter_any (a b c d : Int) (w : World) :
    Calls Tryd.prog 86 #[.int .u32 a, .int .u32 b, .int .u32 c, .int .u32 d] w fun e w' => e = .returned (encW (quarter ⟨a, b, c, d⟩)) ∧ w = w' := by
  have H := hidden (fun (x : Int) (W : World) => left_any x 16 (by omega) (by omega) W)
  have H1 := hidden (fun (x : Int) (W : World) => left_any x 12 (by omega) (by omega) W)
  have H2 := hidden (fun (x : Int) (W : World) => left_any x 8 (by omega) (by omega) W)
  have H3 := hidden (fun (x : Int) (W : World) => left_any x 7 (by omega) (by omega) W)
  go_enter Tryd.func86, Tryd.ntmps86
  go_wp2_with (first
    | (go_at_call 109; (with_reducible refine (H.out _ _).mono ?_); rintro e w' ⟨rfl, rfl⟩)
    | (go_at_call 109; (with_reducible refine (H1.out _ _).mono ?_); rintro e w' ⟨rfl, rfl⟩)
    | (go_at_call 109; (with_reducible refine (H2.out _ _).mono ?_); rintro e w' ⟨rfl, rfl⟩)
    | (go_at_call 109; (with_reducible refine (H3.out _ _).mono ?_); rintro e w' ⟨rfl, rfl⟩)
    | fail)
  refine bodyPost_ret (results_four rfl _ _ _ _ _ _ rfl rfl rfl rfl) rfl ?_
  exact ⟨rfl, rfl⟩
set_option maxHeartbeats 800000 in
theorem rquarter_any (a b c d : Int) (w : World) :
    Calls Tryd.prog 108 #[.int .u32 a, .int .u32 b, .int .u32 c, .int .u32 d] w fun e w' => e = .returned (encW (quarter ⟨a, b, c, d⟩)) ∧ w = w' := by
  have H := hidden (fun (x : Int) (W : World) => rturn_any x 16 (by omega) (by omega) W)
  have H1 := hidden (fun (x : Int) (W : World) => rturn_any x 12 (by omega) (by omega) W)
  have H2 := hidden (fun (x : Int) (W : World) => rturn_any x 8 (by omega) (by omega) W)
  have H3 := hidden (fun (x : Int) (W : World) => rturn_any x 7 (by omega) (by omega) W)
  go_enter Tryd.func108, Tryd.ntmps108
  go_wp2_with (first
    | (go_at_call 120; (with_reducible refine (H.out _ _).mono ?_); rintro e w' ⟨rfl, rfl⟩)
    | (go_at_call 120; (with_reducible refine (H1.out _ _).mono ?_); rintro e w' ⟨rfl, rfl⟩)
    | (go_at_call 120; (with_reducible refine (H2.out _ _).mono ?_); rintro e w' ⟨rfl, rfl⟩)
    | (go_at_call 120; (with_reducible refine (H3.out _ _).mono ?_); rintro e w' ⟨rfl, rfl⟩)
    | fail)
  refine bodyPost_ret (results_four rfl _ _ _ _ _ _ rfl rfl rfl rfl) rfl ?_
  exact ⟨rfl, rfl⟩
/-- The example of the chapter. -/
theorem exampleQ : quarter ⟨0x11111111, 0x01020304, 0x9b8d6f43, 0x01234567⟩ = ⟨0xea2a92f4, 0xcb1cf8ce, 0x4581472e, 0x5881c4bb⟩ := by kernel_rfl
end Go.Proofs.YtpocehpejbnemaaDoor
