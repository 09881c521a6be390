/-
  The law's own draw: a payload of one of the twelve kinds.
-/
import Derived.Test.YtpocehpejbnemaaDoorRPayLawR
import Derived.Test.YtpocehpejbnemaaDoorRZ9
import Derived.Test.YtpocehpejbnemaaDoorRZ10
namespace Go.Proofs.YtpocehpejbnemaaDoor
open Go.RowKit
set_option linter.unusedVariables false

def kindsL : List Int := [33, 34, 40, 35, 36, 39, 44, 45, 41, 42, 43, 37]
/-- The package's table of kinds lies where it lies. -/
def KindsAt (w : World) : Prop := ∀ j, j < 12 → w.cell? ⟨0, j, none⟩ = some (.int .i64 (kindsL.getD j 0))
theorem KindsAt.grown {w w' : World} {k : Nat} (h : KindsAt w) (hg : w.grownBy w' (some k)) (hk : 0 < k) : KindsAt w' := fun j hj => hg.cell (h j hj) (by simp; omega)
theorem KindsAt.below {w w' : World} (h : KindsAt w) (hb : Below w.heap.size w w') : KindsAt w' := fun j hj => cell_below hb _ _ (h j hj)
theorem kindsL_12 (j : Nat) (hj : j < 12) : Kind12 (kindsL.getD j 0) := by
  have : j = 0 ∨ j = 1 ∨ j = 2 ∨ j = 3 ∨ j = 4 ∨ j = 5 ∨ j = 6 ∨ j = 7 ∨ j = 8 ∨ j = 9 ∨ j = 10 ∨ j = 11 := by omega
  unfold Kind12
  rcases this with rfl | rfl | rfl | rfl | rfl | rfl | rfl | rfl | rfl | rfl | rfl | rfl <;> simp [kindsL]
theorem mkpay_any (W w : World) (k : Nat) (h : Cod W w k) (j : Nat) (hj : j < 12) : Calls Tryd.prog 27 #[.pointer (some ⟨k, 0, none⟩), .int .i64 (kindsL.getD j 0)] w (MadePv W w k (kindsL.getD j 0)) := by
  have : j = 0 ∨ j = 1 ∨ j = 2 ∨ j = 3 ∨ j = 4 ∨ j = 5 ∨ j = 6 ∨ j = 7 ∨ j = 8 ∨ j = 9 ∨ j = 10 ∨ j = 11 := by omega
  rcases this with rfl | rfl | rfl | rfl | rfl | rfl | rfl | rfl | rfl | rfl | rfl | rfl
  · exact mkpay33 W w k h
  · exact mkpay34 W w k h
  · exact mkpay40 W w k h
  · exact mkpay35 W w k h
  · exact mkpay36 W w k h
  · exact mkpay39 W w k h
  · exact mkpay44 W w k h
  · exact mkpay45 W w k h
  · exact mkpay41 W w k h
  · exact mkpay42 W w k h
  · exact mkpay43 W w k h
  · exact mkpay37 W w k h

set_option maxHeartbeats 1600000 in
set_option maxRecDepth 100000 in
theorem draw6_any (W w : World) (k : Nat) (h : Cod W w k) (hk0 : 0 < k) (hK : KindsAt w) : Calls Tryd.prog 10 #[.pointer (some ⟨k, 0, none⟩)] w fun e w' => ∃ K, Kind12 K ∧ MadePv W w k K e w' := by
  have hk := h.lt
  have hbase := h.bel.size
  have HC0 := hidden (h.alloc (.cells #[.int .i64 0, .slice none 0 0, .int .i64 0, .slice none 0 0, .int .i64 0, .slice none 0 0, .int .i64 0, .slice none 0 0, .int .i64 0, .slice none 0 0, .int .i64 0, .slice none 0 0, .int .i64 0, .slice none 0 0, .slice none 0 0, .slice none 0 0] 40))
  have HR0 := hidden (PvIn.new w zeroP 40)
  have HG0 := hidden (World.grownBy_alloc w (.cells #[.int .i64 0, .slice none 0 0, .int .i64 0, .slice none 0 0, .int .i64 0, .slice none 0 0, .int .i64 0, .slice none 0 0, .int .i64 0, .slice none 0 0, .int .i64 0, .slice none 0 0, .int .i64 0, .slice none 0 0, .slice none 0 0, .slice none 0 0] 40) (some k))
  have HK0 := hidden (hK.below ((Below.refl _ w).alloc (Nat.le_refl _) (.cells #[.int .i64 0, .slice none 0 0, .int .i64 0, .slice none 0 0, .int .i64 0, .slice none 0 0, .int .i64 0, .slice none 0 0, .int .i64 0, .slice none 0 0, .int .i64 0, .slice none 0 0, .int .i64 0, .slice none 0 0, .slice none 0 0, .slice none 0 0] 40)))
  clear h hK
  go_enter Tryd.func10, Tryd.ntmps10
  go_wp2_with (first
    | (go_at_call 28; (with_reducible refine (next_any W _ k HC0.out 12 ?_).mono ?_); omega; rintro e w1 ⟨r, rfl, r0, r1, hc, hg⟩; obtain ⟨r, rfl⟩ := Int.eq_ofNat_of_zero_le r0; have HC1 := hidden hc; have HR1 : Hid (PvIn w1 w.heap.size zeroP) := hidden (HR0.out.grown hg (by simp; omega)); have HG1 := hidden (grown_trans HG0.out hg); have hcell := (HK0.out.grown hg hk0) r (by omega); have hr12 : r < 12 := (by omega); have HS1 : Hid (w.heap.size + 1 ≤ w1.heap.size) := hidden (by have := hg.size; simpa using this); have HMP := hidden (mkpay_any W w1 k hc r (by omega)); have HK12 := hidden (kindsL_12 r (by omega)); generalize kindsL.getD r 0 = K at *; clear hc hg HC0 HR0 HG0 HK0)
    | (go_at_call 27; (with_reducible refine (HMP.out).mono ?_); rintro e w2 ⟨x, C, rfl, ht, hp, hrow, hl, hn2, hs2, hts, hc, hg, hnum⟩; have HP2 := hidden hp; have HW2 := hidden hrow; have HL2 := hidden (And.intro hl (And.intro hn2 (And.intro hs2 (And.intro hts ht)))); have HR2 := hidden (HR1.out.grown hg (by simp; omega)); have HG2 := hidden (grown_trans HG1.out hg); have HC2 := hidden hc; obtain ⟨y0, y1, y2, y3, y4, y5, y6, y7, y8, y9, y10, y11, y12, y13, y14, y15, z0_, z1_, z2_, z3_, z4_, z5_, z6_, z7_, z8_, z9_, z10_, z11_, z12_, z13_, z14_, z15_, zf⟩ := HR2.out.any; clear ht hp hrow hl hn2 hs2 hts hc hg hcell)
    | fail)
  have hs := setPv_grown w2 w.heap.size x
  have hz := setPv_in HR2.out x
  have hsz := HS1.out
  have h1 := HP2.out.step (Kpt.low hs (by omega))
  have h2 := HW2.out.low hs (by omega)
  have h3 := HC2.out.grown hs (by simp; omega) (by intro j hj; simp at hj; omega)
  have h4 := grown_own HG2.out hs (by intro j hj; simp at hj; omega)
  obtain ⟨l1, l2, l3, l4, l5⟩ := HL2.out
  simp only [setPv] at hz h1 h2 h3 h4
  exact ret_pv1 (g := w.heap.size) rfl rfl rfl hz ⟨K, HK12.out, x, C, rfl, l5, h1.mono (by omega), h2.mono (by omega), l1, l2, l3, l4, h3, h4, hnum⟩
end Go.Proofs.YtpocehpejbnemaaDoor
