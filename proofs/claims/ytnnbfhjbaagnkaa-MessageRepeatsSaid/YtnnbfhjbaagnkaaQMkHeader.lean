/-
  The header that a list of choices makes: it passes Check.
-/
import Derived.Test.YtnnbfhjbaagnkaaQRet
import Derived.Test.YtnnbfhjbaagnkaaQZ3
namespace Go.Proofs.Ytnnbfhjbaagnkaa
open Go.RowKit
set_option linter.unusedVariables false

/-- What the made headers have in common. -/
structure Good (i r n x f m : Int) : Prop where
  gi : 1 ≤ i ∧ i ≤ 18446744073709551615
  gr : 0 ≤ r ∧ r ≤ 18446744073709551615
  gn : n = 0
  gx : 34 ≤ x ∧ x ≤ 37
  gf : f = 8 ∨ f = 32 ∨ f = 40 ∨ f = 0
  gm : 0 ≤ m ∧ m ≤ 255
  first : x = 34 → m = 0
  later : x ≠ 34 → r ≠ 0

/-- A whole header stored over another one. -/
theorem stored_hdr {w : World} {g : Nat} {i r n x f m i' r' n' x' f' m' : Int} (h : HdrIn w g 0 i r n x f m) :
    HdrIn ((((((w.setCell ⟨g, 0, none⟩ (.int .u64 i')).setCell ⟨g, 1, none⟩ (.int .u64 r')).setCell ⟨g, 2, none⟩ (.int .i64 n')).setCell ⟨g, 3, none⟩ (.int .i64 x')).setCell ⟨g, 4, none⟩ (.int .i64 f')).setCell ⟨g, 5, none⟩ (.int .u32 m')) g 0 i' r' n' x' f' m' :=
  (((((h.set0 _).set1 _).set2 _).set3 _).set4 _).set5 _
theorem HdrIn.set_ne {w : World} {g o : Nat} {i r n x f m : Int} (h : HdrIn w g o i r n x f m) (g' j : Nat) (v : Value) (hne : g ≠ g') : HdrIn (w.setCell ⟨g', j, none⟩ v) g o i r n x f m :=
  h.grown (grown_set w g' j v) (by simp; exact hne)

set_option maxHeartbeats 800000 in
theorem header_any (W w : World) (k : Nat) (h : Cod W w k) :
    Calls Try.prog 10 #[.pointer (some ⟨k, 0, none⟩)] w fun e w' => ∃ i r n x f m : Int, e = .returned (.agg #[.int .u64 i, .int .u64 r, .int .i64 n, .int .i64 x, .int .i64 f, .int .u32 m]) ∧ Good i r n x f m ∧ Cod W w' k ∧ w.grownBy w' (some k) := by
  have hk := h.lt
  have hbase := h.base
  have H := hidden (h.alloc (.cells #[.int .u64 0, .int .u64 0, .int .i64 0, .int .i64 0, .int .i64 0, .int .u32 0] 29))
  clear h
  go_enter Try.func10, Try.ntmps10
  go_wp2_with (go_at_call 16; refine (word_any W _ k H.out).mono ?_)
  rintro e w1 ⟨i, rfl, i0, i1, hc, hg⟩
  have HC := hidden hc
  have HR := hidden ((HdrIn.new w 0 0 0 0 0 0 29).grown hg (by simp; omega))
  have HG := hidden (grown_trans (World.grownBy_alloc w _ _) hg)
  clear hc hg H
  go_wp2_with (go_at_call 16; refine (word_any W _ k HC.out).mono ?_)
  rintro e w2 ⟨r, rfl, r0, r1, hc, hg⟩
  have HC2 := hidden hc
  have HR2 := hidden (HR.out.grown hg (by simp; omega))
  have HG2 := hidden (grown_trans HG.out hg)
  clear hc hg HC HR HG
  go_wp2_with (go_at_call 8; refine (next_any W _ k HC2.out _ ?_).mono ?_; omega)
  rintro e w3 ⟨x, rfl, x0, x1, hc, hg⟩
  have hk3 := hc.lt
  have HC3 := hidden (hc.alloc (.cells ((([8, 32, 40, 0] : List Int).map (Value.int .i64)).toArray) 3))
  have HR3 := hidden (HR2.out.grown hg (by simp; omega))
  have HG3 := hidden (grown_trans HG2.out hg)
  clear hc hg HC2 HR2 HG2
  go_wp2_with (go_at_call 8; refine (next_any W _ k HC3.out _ ?_).mono ?_; omega)
  rintro e w4 ⟨j, rfl, j0, j1, hc, hg⟩
  obtain ⟨j, rfl⟩ := Int.eq_ofNat_of_zero_le j0
  have hcell := hg.cell (ints_at w3 [8, 32, 40, 0] 3 j (by simp; omega)) (by simp; omega)
  have hf : List.getD [8, 32, 40, 0] j (0 : Int) = 8 ∨ List.getD [8, 32, 40, 0] j (0 : Int) = 32 ∨ List.getD [8, 32, 40, 0] j (0 : Int) = 40 ∨ List.getD [8, 32, 40, 0] j (0 : Int) = 0 := by
    have : j = 0 ∨ j = 1 ∨ j = 2 ∨ j = 3 := by omega
    rcases this with rfl | rfl | rfl | rfl <;> simp
  generalize List.getD [8, 32, 40, 0] j (0 : Int) = f at hcell hf
  have HF := hidden hf
  have HC4 := hidden hc
  have hh := ((HR3.out.grown (World.grownBy_alloc w3 _ none) (by simp)).grown hg (by simp; omega))
  have HR4 := hidden hh
  obtain ⟨q0, q1, q2, q3, q4, q5, qf⟩ := hh
  have HG4 := hidden (grown_trans (grown_trans HG3.out (World.grownBy_alloc w3 _ _)) hg)
  have hw4 := HR4.out.lt
  have hk4 := hc.lt
  have hs4 := HG4.out.size
  clear hc hg HC3 HR3 HG3 hf
  by_cases hx : x = 0
  · subst hx
    go_wp2
    all_goals refine ret_hdr (g := w.heap.size) rfl rfl rfl (HdrIn.alloc (stored_hdr HR4.out) _) ?_
    all_goals have hf := HF.out
    all_goals simp at *
    all_goals refine ⟨_, _, _, _, _, _, ⟨rfl, rfl, rfl, rfl, rfl, rfl⟩, ⟨by omega, by omega, by omega, by omega, by omega, by omega, by omega, by omega⟩, ?_, ?_⟩
    all_goals repeat' (first | with_reducible exact HC4.out | with_reducible exact HG4.out | (with_reducible refine Cod.alloc ?_ _) | (with_reducible refine Cod.set ?_ _ _ _ (by omega) (by omega)) | (with_reducible refine grown_alloc_new ?_ _) | (with_reducible refine grown_set_new ?_ _ _ _ (by omega)))
  · have ex : (34 + x == 34) = false := by simp; omega
    go_wp2_with (go_at_call 8; refine (next_any W _ k (HC4.out.alloc _) _ ?_).mono ?_; omega)
    rintro e w5 ⟨m, rfl, m0, m1, hc, hg⟩
    have hh := (HdrIn.new w4 i r 0 (34 + x) f 0 29).grown hg (by simp; omega)
    have hr := (HR4.out.alloc _).grown hg (by simp; omega)
    have HC5 := hidden hc
    have HG5 := hidden (grown_trans (grown_alloc_new HG4.out _) hg)
    have hw5 := hg.size
    simp at hw5
    clear q0 q1 q2 q3 q4 q5 qf HC4 HR4 HG4 hc hg hcell
    have HR5 := hidden hr
    obtain ⟨q0, q1, q2, q3, q4, q5, qf⟩ := hr
    obtain ⟨p0, p1, p2, p3, p4, p5, pf⟩ := hh
    go_wp2
    all_goals refine ret_hdr (g := w.heap.size) rfl rfl rfl (stored_hdr (i := 0) (r := 0) (n := 0) (x := 0) (f := 0) (m := 0) (by repeat' (first | with_reducible exact HR5.out | (with_reducible refine HdrIn.set_ne ?_ _ _ _ (by omega))))) ?_
    all_goals have hf := HF.out
    all_goals simp at *
    all_goals refine ⟨_, _, _, _, _, _, ⟨rfl, rfl, rfl, rfl, rfl, rfl⟩, ⟨by omega, by omega, by omega, by omega, by omega, by omega, by omega, by omega⟩, ?_, ?_⟩
    all_goals repeat' (first | with_reducible exact HC5.out | with_reducible exact HG5.out | (with_reducible refine Cod.alloc ?_ _) | (with_reducible refine Cod.set ?_ _ _ _ (by omega) (by omega)) | (with_reducible refine grown_alloc_new ?_ _) | (with_reducible refine grown_set_new ?_ _ _ _ (by omega)))
end Go.Proofs.Ytnnbfhjbaagnkaa
