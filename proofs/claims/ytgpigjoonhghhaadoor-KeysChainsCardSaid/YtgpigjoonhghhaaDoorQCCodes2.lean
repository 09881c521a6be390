/-
  A list of choices: its making.
-/
import Derived.Test.YtgpigjoonhghhaaDoorQCCodes
namespace Go.Proofs.YtgpigjoonhghhaaDoor
open Go.RowKit
set_option linter.unusedVariables false
theorem Cod.alloc {W w : World} {k : Nat} (h : Cod W w k) (o : Obj) : Cod W (w.alloc o) k := h.below ((Below.refl _ _).alloc (Nat.le_refl _) o)
theorem Cod.set {W w : World} {k : Nat} (h : Cod W w k) (g j : Nat) (v : Value) (hg : W.heap.size ≤ g) (hne : g ≠ k) : Cod W (w.setCell ⟨g, j, none⟩ v) k :=
  h.grown (grown_set w g j v) (by simp; omega) (by simp; omega)
set_option maxHeartbeats 400000 in
theorem new_any (W : World) (p : Option Addr) (n c : Nat) (xs : List Int) (w : World) (h : Byt W p n c xs) (hb : Below W.heap.size W w) (m : Nat) (hm : m ≤ 9223372036854775807) :
    Calls Tryd.prog 8 #[.slice p n c, .int .i64 m] w fun e w' => e = .returned (.pointer (some ⟨w.heap.size, 0, none⟩)) ∧ Cod W w' w.heap.size ∧ Below w.heap.size w w' := by
  have hn := h.le
  have hcap := h.cap
  have hbig := h.big
  have hs := hb.size
  unfold maxLen at hbig
  have key : ∀ (w' : World) p n c xs, Byt W p n c xs → w' = w.alloc (.cells #[.slice p n c, .int .i64 0] 61) → Cod W w' w.heap.size ∧ Below w.heap.size w w' := by
    intro w' p n c xs hx hw
    have hbb := (Below.refl w.heap.size w).alloc (Nat.le_refl _) (.cells #[.slice p n c, .int .i64 0] 61)
    subst hw
    refine ⟨⟨hs, hb.alloc hs _, fun j => by go_simp, p, n, c, xs, 0, hx, Nat.zero_le _, by go_simp, by go_simp⟩, hbb⟩
  have HK := hidden key
  have H := hidden h
  clear key h hb
  by_cases hlt : m < n
  · go_enter Tryd.func8, Tryd.ntmps8
    go_wp2
    go_ret
    exact ⟨rfl, HK.out _ _ _ _ _ (H.out.front m (by omega)) rfl⟩
  · go_enter Tryd.func8, Tryd.ntmps8
    go_wp2
    go_ret
    exact ⟨rfl, HK.out _ _ _ _ _ H.out rfl⟩
end Go.Proofs.YtgpigjoonhghhaaDoor
