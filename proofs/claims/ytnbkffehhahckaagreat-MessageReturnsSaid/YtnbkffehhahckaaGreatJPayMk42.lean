/-
  Codes.Payload, a type at a time.
-/
import Derived.Test.YtnbkffehhahckaaGreatJPayMkB
namespace Go.Proofs.YtnbkffehhahckaaGreat
open Go.RowKit
set_option linter.unusedVariables false
set_option maxHeartbeats 3200000 in
set_option maxRecDepth 100000 in
theorem mkpay42 (W w : World) (k : Nat) (h : Cod W w k) : Calls Tryz.prog 14 #[.pointer (some ⟨k, 0, none⟩), .int .i64 42] w (MadePv W w k 42) := by
  have hk := h.lt
  have hbase := h.bel.size
  have H0 := hidden (PyS.new h 42)
  clear h
  go_enter Tryz.func14, Tryz.ntmps14
  go_upto_region 2 with fail
  generalize hw0 : (w.alloc (.cells #[.int .i64 0, .slice none 0 0, .int .i64 0, .slice none 0 0, .int .i64 0, .slice none 0 0, .int .i64 0, .slice none 0 0, .int .i64 0, .slice none 0 0, .int .i64 0, .slice none 0 0, .int .i64 0, .slice none 0 0, .slice none 0 0, .slice none 0 0] 56)).alloc (.cells #[.int .i64 42, .slice none 0 0, .int .i64 0, .slice none 0 0, .int .i64 0, .slice none 0 0, .int .i64 0, .slice none 0 0, .int .i64 0, .slice none 0 0, .int .i64 0, .slice none 0 0, .int .i64 0, .slice none 0 0, .slice none 0 0, .slice none 0 0] 56) = w0 at *
  clear hw0
  have hk0 : k < w0.heap.size := by have := H0.out.ge; omega
  go_upto_if 112 with (first
    | (go_at_call 13; (with_reducible refine (next_ps (((H0.out.alloc _).alloc _).alloc _) hk _ ?_).mono ?_); omega; rintro e w1 ⟨r, rfl, r0, r1, hd, hg⟩; obtain ⟨r, rfl⟩ := Int.eq_ofNat_of_zero_le r0; have H1 := hidden hd; have HSB := hidden (two_sb w0 w1 k hk0 hg (w.heap.size + 2) H0.out.ge); have hwr : IntKind.i64.wrap (1 + (r : Int)) = 1 + (r : Int) := (by rw [IntKind.wrap_i64]; omega); have hq1 : (0 : Int) ≤ 1 + (r : Int) := (by omega); have hq2 : 1 + (r : Int) ≤ 2 := (by omega); have hq3 : (1 + (r : Int)).toNat = 1 + r := (by omega); have s12 := hd.S.c12; have s13 := hd.S.c13; have sf := hd.S.fr; simp only [zeroP, nilV] at s12 s13; clear hd hg H0)
    | (go_at_call 13; (refine (next_ps (H1.out.put hk hbase (wy := ((w1.setCell ⟨w.heap.size + 1, 12, none⟩ (.int .i64 3)).setCell ⟨w.heap.size + 1, 13, none⟩ (.slice (some ⟨w0.heap.size + 1 + 1, 0, none⟩) (1 + r) 2))) (grown_trans (grown_set _ _ _ _) (grown_set _ _ _ _)) (x' := ⟨42, nilV, 0, nilV, 0, nilV, 0, nilV, 0, nilV, 0, nilV, 3, ⟨some ⟨w0.heap.size + 1 + 1, 0, none⟩, 1 + r, 2⟩, nilV, nilV⟩) (H1.out.S.setD 3 ⟨some ⟨w0.heap.size + 1 + 1, 0, none⟩, 1 + r, 2⟩)) hk _ ?_).mono ?_); omega; rintro e w2 ⟨q, rfl, q0, q1, hd, hg⟩; have H2 := hidden hd; have HSB2 := hidden (fun w'' (hk2 : Kpt w2 w'' (w.heap.size + 2)) => HSB.out w'' (((Kpt.low (grown_set w1 (w.heap.size + 1) 12 (.int .i64 3)) (by omega)).trans ((Kpt.low (grown_set _ _ 13 (.slice (some ⟨w0.heap.size + 1 + 1, 0, none⟩) (1 + r) 2)) (by omega)).trans (Kpt.low hg (by omega)))).trans hk2)); clear hd hg H1 HSB s12 s13 sf; obtain ⟨y0, y1, y2, y3, y4, y5, y6, y7, y8, y9, y10, y11, y12, y13, y14, y15, z0_, z1_, z2_, z3_, z4_, z5_, z6_, z7_, z8_, z9_, z10_, z11_, z12_, z13_, z14_, z15_, zf⟩ := H2.out.R.any; obtain ⟨s0, s1, s2, s3, s4, s5, s6, s7, s8, s9, s10, s11, s12, s13, s14, s15, sf⟩ := H2.out.S; simp only [nilV] at s0 s1 s2 s3 s4 s5 s6 s7 s8 s9 s10 s11 s12 s13 s14 s15)
    | fail)
  by_cases hq : q = 1
  · subst hq
    go_wp2
    have hz := H2.out.ret hk hbase (wy := ((w2.setCell ⟨w.heap.size + 1, 12, none⟩ (.int .i64 1)).setCell ⟨w.heap.size + 1, 13, none⟩ (.slice none 0 0))) (grown_trans (grown_set _ _ _ _) (grown_set _ _ _ _)) ⟨42, nilV, 0, nilV, 0, nilV, 0, nilV, 0, nilV, 0, nilV, 1, nilV, nilV, nilV⟩
    simp only [setPv, nilV] at hz
    exact ret_pv1 (g := w.heap.size) rfl rfl rfl hz.1 (made_plain (C := C0) rfl rfl rfl (fun w' hk' => ⟨rdg_nil _ _ _, byt_nil _, byt_nil _, byt_nil _, byt_nil _, byt_nil _, rdg_nil _ _ _, rdg_nil _ _ _, byt_nil _⟩) hz.2.1 hz.2.2.1 hz.2.2.2 ((vld42 rfl).2 (Or.inl ⟨rfl, rfl⟩)))
  · have hq' : (q == 1) = false := by simpa using hq
    clear hq
    go_wp2
    have hz := H2.out.ret hk hbase (wy := w2) (grown_refl _ _) ⟨42, nilV, 0, nilV, 0, nilV, 0, nilV, 0, nilV, 0, nilV, 3, ⟨some ⟨w0.heap.size + 1 + 1, 0, none⟩, 1 + r, 2⟩, nilV, nilV⟩
    simp only [setPv, nilV] at hz
    exact ret_pv1 (g := w.heap.size) rfl rfl rfl hz.1 (made_plain (C := { C0 with ds := ([⟨some ⟨w0.heap.size, 0, none⟩, 4, 4, [1, 2, 3, 4]⟩, ⟨some ⟨w0.heap.size + 1, 0, none⟩, 4, 4, [1, 2, 3, 5]⟩] : List Sb).take (1 + r) }) rfl rfl rfl (fun w' hk' => ⟨rdg_nil _ _ _, byt_nil _, byt_nil _, byt_nil _, byt_nil _, byt_nil _, (HSB2.out w' hk').front (1 + r) (by omega), rdg_nil _ _ _, byt_nil _⟩) hz.2.1 hz.2.2.1 hz.2.2.2 ((vld42 rfl).2 (Or.inr ⟨rfl, by have hrr : r = 0 ∨ r = 1 := (by omega); rcases hrr with rfl | rfl; exact Or.inl rfl; exact Or.inr rfl⟩)))
end Go.Proofs.YtnbkffehhahckaaGreat
