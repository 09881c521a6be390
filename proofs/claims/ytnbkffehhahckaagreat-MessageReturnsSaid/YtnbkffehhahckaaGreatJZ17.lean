/-
  Package payload's build, kind by kind.
  What package selector's read and Parse return, for any bytes.
  Package payload's reader of selectors.
-/
import Derived.Test.YtnbkffehhahckaaGreatJZ12
import Derived.Test.YtnbkffehhahckaaGreatJZ13
import Derived.Test.YtnbkffehhahckaaGreatJZ14
import Derived.Test.YtnbkffehhahckaaGreatJZ5
import Derived.Test.YtnbkffehhahckaaGreatJZ9
import Derived.Test.YtnbkffehhahckaaGreatJZ16
import Derived.Test.YtnbkffehhahckaaGreatJZ1
import Derived.Test.YtnbkffehhahckaaGreatJZ18
namespace Go.Proofs.YtnbkffehhahckaaGreat
open Go.RowKit
set_option linter.unusedVariables false
set_option linter.unusedSimpArgs false
theorem buildS_rng (l : List Sl) : ∀ z ∈ (buildS l).1, 0 ≤ z ∧ z ≤ 255 := by
  unfold buildS
  repeat' split
  all_goals first
    | (intro z hz; cases hz; done)
    | exact rng_append (by intro z hz; simp at hz; omega) (encL_rng _)
theorem own_be {w w' : World} {v : Value} {L : List Int} {E : Int} (h : Own w' w.heap.size 5 v L) (hr : ∀ z ∈ L, 0 ≤ z ∧ z ≤ 255) (hb : Below w.heap.size w w') : GotBE w L E (.returned (.tuple #[v, .int .i64 E])) w' := by
  obtain ⟨q, d, rfl, hf⟩ := h.frs rfl hr
  exact ⟨q, d, rfl, hf, hb⟩
def headL (k : Int) (d : List Int) : List Int := [k % 256, 0, 0, 0] ++ d
set_option maxHeartbeats 3200000 in
set_option maxRecDepth 100000 in
theorem pb_33 (x : Pv) (C : Pc) (w : World) (h : R33 w x C) :
    Calls Tryz.prog 45 #[.agg #[.int .i64 33, .slice x.pr.p x.pr.n x.pr.c, .int .i64 x.eg, .slice x.ed.p x.ed.n x.ed.c, .int .i64 x.ik, .slice x.id.p x.id.n x.id.c, .int .i64 x.am, .slice x.ad.p x.ad.n x.ad.c, .int .i64 x.np, .slice x.ns.p x.ns.n x.ns.c, .int .i64 x.nt, .slice x.nd.p x.nd.n x.nd.c, .int .i64 x.dp, .slice x.ds.p x.ds.n x.ds.c, .slice x.se.p x.se.n x.se.c, .slice x.da.p x.da.n x.da.c]] w (GotBE w ((buildP (C.pr.map PrP.pr)).1) ((buildP (C.pr.map PrP.pr)).2)) := by
  have HB := hidden ((Below.refl w.heap.size w).alloc (Nat.le_refl _) (.cells #[.int .i64 33, .slice x.pr.p x.pr.n x.pr.c, .int .i64 x.eg, .slice x.ed.p x.ed.n x.ed.c, .int .i64 x.ik, .slice x.id.p x.id.n x.id.c, .int .i64 x.am, .slice x.ad.p x.ad.n x.ad.c, .int .i64 x.np, .slice x.ns.p x.ns.n x.ns.c, .int .i64 x.nt, .slice x.nd.p x.nd.n x.nd.c, .int .i64 x.dp, .slice x.ds.p x.ds.n x.ds.c, .slice x.se.p x.se.n x.se.c, .slice x.da.p x.da.n x.da.c] 56))
  have hr := buildP_rng _ h.pr.rng (L := (buildP (C.pr.map PrP.pr)).1) (E := (buildP (C.pr.map PrP.pr)).2) rfl
  have HC := hidden (pbuild_any _ _ _ C.pr (w.alloc (.cells #[.int .i64 33, .slice x.pr.p x.pr.n x.pr.c, .int .i64 x.eg, .slice x.ed.p x.ed.n x.ed.c, .int .i64 x.ik, .slice x.id.p x.id.n x.id.c, .int .i64 x.am, .slice x.ad.p x.ad.n x.ad.c, .int .i64 x.np, .slice x.ns.p x.ns.n x.ns.c, .int .i64 x.nt, .slice x.nd.p x.nd.n x.nd.c, .int .i64 x.dp, .slice x.ds.p x.ds.n x.ds.c, .slice x.se.p x.se.n x.se.c, .slice x.da.p x.da.n x.da.c] 56)) (h.pr.below HB.out) (buildP (C.pr.map PrP.pr)).1 (buildP (C.pr.map PrP.pr)).2 rfl)
  generalize buildP (C.pr.map PrP.pr) = R at *
  obtain ⟨L, E⟩ := R
  have HR := hidden hr
  clear h hr
  simp only at HC HR ⊢
  go_enter Tryz.func45, Tryz.ntmps45
  go_wp2_with (first | (go_at_call 61; (with_reducible refine (HC.out).mono ?_); rintro e w1 ⟨v, rfl, ho, hb⟩; have HO := hidden ho; have HB2 := hidden hb; clear ho hb) | fail)
  go_ret2
  exact own_be (HO.out.mono HB.out.size) HR.out (HB.out.trans (HB2.out.mono HB.out.size))
set_option maxHeartbeats 3200000 in
set_option maxRecDepth 100000 in
theorem pb_44 (x : Pv) (C : Pc) (w : World) (h : R44 w x C) :
    Calls Tryz.prog 45 #[.agg #[.int .i64 44, .slice x.pr.p x.pr.n x.pr.c, .int .i64 x.eg, .slice x.ed.p x.ed.n x.ed.c, .int .i64 x.ik, .slice x.id.p x.id.n x.id.c, .int .i64 x.am, .slice x.ad.p x.ad.n x.ad.c, .int .i64 x.np, .slice x.ns.p x.ns.n x.ns.c, .int .i64 x.nt, .slice x.nd.p x.nd.n x.nd.c, .int .i64 x.dp, .slice x.ds.p x.ds.n x.ds.c, .slice x.se.p x.se.n x.se.c, .slice x.da.p x.da.n x.da.c]] w (GotBE w ((buildS C.se).1) ((buildS C.se).2)) := by
  have HB := hidden ((Below.refl w.heap.size w).alloc (Nat.le_refl _) (.cells #[.int .i64 44, .slice x.pr.p x.pr.n x.pr.c, .int .i64 x.eg, .slice x.ed.p x.ed.n x.ed.c, .int .i64 x.ik, .slice x.id.p x.id.n x.id.c, .int .i64 x.am, .slice x.ad.p x.ad.n x.ad.c, .int .i64 x.np, .slice x.ns.p x.ns.n x.ns.c, .int .i64 x.nt, .slice x.nd.p x.nd.n x.nd.c, .int .i64 x.dp, .slice x.ds.p x.ds.n x.ds.c, .slice x.se.p x.se.n x.se.c, .slice x.da.p x.da.n x.da.c] 56))
  have hr := buildS_rng C.se
  have HC := hidden (sbuild_any _ _ _ C.se (w.alloc (.cells #[.int .i64 44, .slice x.pr.p x.pr.n x.pr.c, .int .i64 x.eg, .slice x.ed.p x.ed.n x.ed.c, .int .i64 x.ik, .slice x.id.p x.id.n x.id.c, .int .i64 x.am, .slice x.ad.p x.ad.n x.ad.c, .int .i64 x.np, .slice x.ns.p x.ns.n x.ns.c, .int .i64 x.nt, .slice x.nd.p x.nd.n x.nd.c, .int .i64 x.dp, .slice x.ds.p x.ds.n x.ds.c, .slice x.se.p x.se.n x.se.c, .slice x.da.p x.da.n x.da.c] 56)) (h.se.below HB.out) (buildS C.se).1 (buildS C.se).2 rfl)
  generalize buildS C.se = R at *
  obtain ⟨L, E⟩ := R
  have HR := hidden hr
  clear h hr
  simp only at HC HR ⊢
  go_enter Tryz.func45, Tryz.ntmps45
  go_wp2_with (first | (go_at_call 69; (with_reducible refine (HC.out).mono ?_); rintro e w1 ⟨v, rfl, ho, hb⟩; have HO := hidden ho; have HB2 := hidden hb; clear ho hb) | fail)
  go_ret2
  exact own_be (HO.out.mono HB.out.size) HR.out (HB.out.trans (HB2.out.mono HB.out.size))
set_option maxHeartbeats 3200000 in
set_option maxRecDepth 100000 in
theorem pb_45 (x : Pv) (C : Pc) (w : World) (h : R44 w x C) :
    Calls Tryz.prog 45 #[.agg #[.int .i64 45, .slice x.pr.p x.pr.n x.pr.c, .int .i64 x.eg, .slice x.ed.p x.ed.n x.ed.c, .int .i64 x.ik, .slice x.id.p x.id.n x.id.c, .int .i64 x.am, .slice x.ad.p x.ad.n x.ad.c, .int .i64 x.np, .slice x.ns.p x.ns.n x.ns.c, .int .i64 x.nt, .slice x.nd.p x.nd.n x.nd.c, .int .i64 x.dp, .slice x.ds.p x.ds.n x.ds.c, .slice x.se.p x.se.n x.se.c, .slice x.da.p x.da.n x.da.c]] w (GotBE w ((buildS C.se).1) ((buildS C.se).2)) := by
  have HB := hidden ((Below.refl w.heap.size w).alloc (Nat.le_refl _) (.cells #[.int .i64 45, .slice x.pr.p x.pr.n x.pr.c, .int .i64 x.eg, .slice x.ed.p x.ed.n x.ed.c, .int .i64 x.ik, .slice x.id.p x.id.n x.id.c, .int .i64 x.am, .slice x.ad.p x.ad.n x.ad.c, .int .i64 x.np, .slice x.ns.p x.ns.n x.ns.c, .int .i64 x.nt, .slice x.nd.p x.nd.n x.nd.c, .int .i64 x.dp, .slice x.ds.p x.ds.n x.ds.c, .slice x.se.p x.se.n x.se.c, .slice x.da.p x.da.n x.da.c] 56))
  have hr := buildS_rng C.se
  have HC := hidden (sbuild_any _ _ _ C.se (w.alloc (.cells #[.int .i64 45, .slice x.pr.p x.pr.n x.pr.c, .int .i64 x.eg, .slice x.ed.p x.ed.n x.ed.c, .int .i64 x.ik, .slice x.id.p x.id.n x.id.c, .int .i64 x.am, .slice x.ad.p x.ad.n x.ad.c, .int .i64 x.np, .slice x.ns.p x.ns.n x.ns.c, .int .i64 x.nt, .slice x.nd.p x.nd.n x.nd.c, .int .i64 x.dp, .slice x.ds.p x.ds.n x.ds.c, .slice x.se.p x.se.n x.se.c, .slice x.da.p x.da.n x.da.c] 56)) (h.se.below HB.out) (buildS C.se).1 (buildS C.se).2 rfl)
  generalize buildS C.se = R at *
  obtain ⟨L, E⟩ := R
  have HR := hidden hr
  clear h hr
  simp only at HC HR ⊢
  go_enter Tryz.func45, Tryz.ntmps45
  go_wp2_with (first | (go_at_call 69; (with_reducible refine (HC.out).mono ?_); rintro e w1 ⟨v, rfl, ho, hb⟩; have HO := hidden ho; have HB2 := hidden hb; clear ho hb) | fail)
  go_ret2
  exact own_be (HO.out.mono HB.out.size) HR.out (HB.out.trans (HB2.out.mono HB.out.size))
set_option maxHeartbeats 3200000 in
set_option maxRecDepth 100000 in
theorem pb_34 (x : Pv) (C : Pc) (w : World) (h : R34 w x C) (hn : x.ed.n ≤ 1000000) :
    Calls Tryz.prog 45 #[.agg #[.int .i64 34, .slice x.pr.p x.pr.n x.pr.c, .int .i64 x.eg, .slice x.ed.p x.ed.n x.ed.c, .int .i64 x.ik, .slice x.id.p x.id.n x.id.c, .int .i64 x.am, .slice x.ad.p x.ad.n x.ad.c, .int .i64 x.np, .slice x.ns.p x.ns.n x.ns.c, .int .i64 x.nt, .slice x.nd.p x.nd.n x.nd.c, .int .i64 x.dp, .slice x.ds.p x.ds.n x.ds.c, .slice x.se.p x.se.n x.se.c, .slice x.da.p x.da.n x.da.c]] w (GotBE w (exchL x.eg C.ed) (exchE x.eg x.ed.n)) := by
  have HB := hidden ((Below.refl w.heap.size w).alloc (Nat.le_refl _) (.cells #[.int .i64 34, .slice x.pr.p x.pr.n x.pr.c, .int .i64 x.eg, .slice x.ed.p x.ed.n x.ed.c, .int .i64 x.ik, .slice x.id.p x.id.n x.id.c, .int .i64 x.am, .slice x.ad.p x.ad.n x.ad.c, .int .i64 x.np, .slice x.ns.p x.ns.n x.ns.c, .int .i64 x.nt, .slice x.nd.p x.nd.n x.nd.c, .int .i64 x.dp, .slice x.ds.p x.ds.n x.ds.c, .slice x.se.p x.se.n x.se.c, .slice x.da.p x.da.n x.da.c] 56))
  have HC := hidden (buildExchange_any x.eg _ _ _ C.ed (w.alloc (.cells #[.int .i64 34, .slice x.pr.p x.pr.n x.pr.c, .int .i64 x.eg, .slice x.ed.p x.ed.n x.ed.c, .int .i64 x.ik, .slice x.id.p x.id.n x.id.c, .int .i64 x.am, .slice x.ad.p x.ad.n x.ad.c, .int .i64 x.np, .slice x.ns.p x.ns.n x.ns.c, .int .i64 x.nt, .slice x.nd.p x.nd.n x.nd.c, .int .i64 x.dp, .slice x.ds.p x.ds.n x.ds.c, .slice x.se.p x.se.n x.se.c, .slice x.da.p x.da.n x.da.c] 56)) (h.ed.below HB.out) (by omega) _ rfl)
  obtain ⟨LL, hLL⟩ : ∃ LL, exchL x.eg C.ed = LL := ⟨_, rfl⟩
  obtain ⟨EE, hEE⟩ : ∃ EE, exchE x.eg x.ed.n = EE := ⟨_, rfl⟩
  rw [hLL, hEE] at HC ⊢
  clear h hLL hEE
  go_enter Tryz.func45, Tryz.ntmps45
  go_wp2_with (first | (go_at_call 62; (with_reducible refine (HC.out).mono ?_); rintro e w1 ⟨q, d, rfl, hf, hb⟩; have HF := hidden hf; have HB2 := hidden hb; clear hf hb) | fail)
  go_ret2
  exact ⟨q, d, rfl, HF.out.mono HB.out.size, HB.out.trans (HB2.out.mono HB.out.size)⟩
set_option maxHeartbeats 3200000 in
set_option maxRecDepth 100000 in
theorem pb_41 (x : Pv) (C : Pc) (w : World) (h : R41 w x C) (hn : x.ns.n ≤ 1000000) (hn2 : x.nd.n ≤ 1000000) :
    Calls Tryz.prog 45 #[.agg #[.int .i64 41, .slice x.pr.p x.pr.n x.pr.c, .int .i64 x.eg, .slice x.ed.p x.ed.n x.ed.c, .int .i64 x.ik, .slice x.id.p x.id.n x.id.c, .int .i64 x.am, .slice x.ad.p x.ad.n x.ad.c, .int .i64 x.np, .slice x.ns.p x.ns.n x.ns.c, .int .i64 x.nt, .slice x.nd.p x.nd.n x.nd.c, .int .i64 x.dp, .slice x.ds.p x.ds.n x.ds.c, .slice x.se.p x.se.n x.se.c, .slice x.da.p x.da.n x.da.c]] w (GotBE w (noteL x.np x.nt C.ns C.nd) (notifyE x.np x.nt x.ns.n)) := by
  have HB := hidden ((Below.refl w.heap.size w).alloc (Nat.le_refl _) (.cells #[.int .i64 41, .slice x.pr.p x.pr.n x.pr.c, .int .i64 x.eg, .slice x.ed.p x.ed.n x.ed.c, .int .i64 x.ik, .slice x.id.p x.id.n x.id.c, .int .i64 x.am, .slice x.ad.p x.ad.n x.ad.c, .int .i64 x.np, .slice x.ns.p x.ns.n x.ns.c, .int .i64 x.nt, .slice x.nd.p x.nd.n x.nd.c, .int .i64 x.dp, .slice x.ds.p x.ds.n x.ds.c, .slice x.se.p x.se.n x.se.c, .slice x.da.p x.da.n x.da.c] 56))
  have HC := hidden (buildNotify_any x.np x.nt _ _ _ _ _ _ C.ns C.nd (w.alloc (.cells #[.int .i64 41, .slice x.pr.p x.pr.n x.pr.c, .int .i64 x.eg, .slice x.ed.p x.ed.n x.ed.c, .int .i64 x.ik, .slice x.id.p x.id.n x.id.c, .int .i64 x.am, .slice x.ad.p x.ad.n x.ad.c, .int .i64 x.np, .slice x.ns.p x.ns.n x.ns.c, .int .i64 x.nt, .slice x.nd.p x.nd.n x.nd.c, .int .i64 x.dp, .slice x.ds.p x.ds.n x.ds.c, .slice x.se.p x.se.n x.se.c, .slice x.da.p x.da.n x.da.c] 56)) (h.ns.below HB.out) (h.nd.below HB.out) (by omega) _ rfl)
  obtain ⟨LL, hLL⟩ : ∃ LL, noteL x.np x.nt C.ns C.nd = LL := ⟨_, rfl⟩
  obtain ⟨EE, hEE⟩ : ∃ EE, notifyE x.np x.nt x.ns.n = EE := ⟨_, rfl⟩
  rw [hLL, hEE] at HC ⊢
  clear h hLL hEE
  go_enter Tryz.func45, Tryz.ntmps45
  go_wp2_with (first | (go_at_call 67; (with_reducible refine (HC.out).mono ?_); rintro e w1 ⟨q, d, rfl, hf, hb⟩; have HF := hidden hf; have HB2 := hidden hb; clear hf hb) | fail)
  go_ret2
  exact ⟨q, d, rfl, HF.out.mono HB.out.size, HB.out.trans (HB2.out.mono HB.out.size)⟩
set_option maxHeartbeats 3200000 in
set_option maxRecDepth 100000 in
theorem pb_42 (x : Pv) (C : Pc) (w : World) (h : R42 w x C) (hn : x.ds.n ≤ 1000000) :
    Calls Tryz.prog 45 #[.agg #[.int .i64 42, .slice x.pr.p x.pr.n x.pr.c, .int .i64 x.eg, .slice x.ed.p x.ed.n x.ed.c, .int .i64 x.ik, .slice x.id.p x.id.n x.id.c, .int .i64 x.am, .slice x.ad.p x.ad.n x.ad.c, .int .i64 x.np, .slice x.ns.p x.ns.n x.ns.c, .int .i64 x.nt, .slice x.nd.p x.nd.n x.nd.c, .int .i64 x.dp, .slice x.ds.p x.ds.n x.ds.c, .slice x.se.p x.se.n x.se.c, .slice x.da.p x.da.n x.da.c]] w (GotBE w (delBL x.dp (C.ds.map Sb.xs)) (delBE x.dp (C.ds.map Sb.xs))) := by
  have HB := hidden ((Below.refl w.heap.size w).alloc (Nat.le_refl _) (.cells #[.int .i64 42, .slice x.pr.p x.pr.n x.pr.c, .int .i64 x.eg, .slice x.ed.p x.ed.n x.ed.c, .int .i64 x.ik, .slice x.id.p x.id.n x.id.c, .int .i64 x.am, .slice x.ad.p x.ad.n x.ad.c, .int .i64 x.np, .slice x.ns.p x.ns.n x.ns.c, .int .i64 x.nt, .slice x.nd.p x.nd.n x.nd.c, .int .i64 x.dp, .slice x.ds.p x.ds.n x.ds.c, .slice x.se.p x.se.n x.se.c, .slice x.da.p x.da.n x.da.c] 56))
  have HC := hidden (buildDelete_any x.dp _ _ _ C.ds (w.alloc (.cells #[.int .i64 42, .slice x.pr.p x.pr.n x.pr.c, .int .i64 x.eg, .slice x.ed.p x.ed.n x.ed.c, .int .i64 x.ik, .slice x.id.p x.id.n x.id.c, .int .i64 x.am, .slice x.ad.p x.ad.n x.ad.c, .int .i64 x.np, .slice x.ns.p x.ns.n x.ns.c, .int .i64 x.nt, .slice x.nd.p x.nd.n x.nd.c, .int .i64 x.dp, .slice x.ds.p x.ds.n x.ds.c, .slice x.se.p x.se.n x.se.c, .slice x.da.p x.da.n x.da.c] 56)) (h.ds.below HB.out) hn)
  obtain ⟨LL, hLL⟩ : ∃ LL, delBL x.dp (C.ds.map Sb.xs) = LL := ⟨_, rfl⟩
  obtain ⟨EE, hEE⟩ : ∃ EE, delBE x.dp (C.ds.map Sb.xs) = EE := ⟨_, rfl⟩
  rw [hLL, hEE] at HC ⊢
  clear h hLL hEE
  go_enter Tryz.func45, Tryz.ntmps45
  go_wp2_with (first | (go_at_call 68; (with_reducible refine (HC.out).mono ?_); rintro e w1 ⟨q, d, rfl, hf, hb⟩; have HF := hidden hf; have HB2 := hidden hb; clear hf hb) | fail)
  go_ret2
  exact ⟨q, d, rfl, HF.out.mono HB.out.size, HB.out.trans (HB2.out.mono HB.out.size)⟩
set_option maxHeartbeats 3200000 in
set_option maxRecDepth 100000 in
theorem pb_35 (x : Pv) (C : Pc) (w : World) (h : R35 w x C) (hn : x.id.n ≤ 1000000) :
    Calls Tryz.prog 45 #[.agg #[.int .i64 35, .slice x.pr.p x.pr.n x.pr.c, .int .i64 x.eg, .slice x.ed.p x.ed.n x.ed.c, .int .i64 x.ik, .slice x.id.p x.id.n x.id.c, .int .i64 x.am, .slice x.ad.p x.ad.n x.ad.c, .int .i64 x.np, .slice x.ns.p x.ns.n x.ns.c, .int .i64 x.nt, .slice x.nd.p x.nd.n x.nd.c, .int .i64 x.dp, .slice x.ds.p x.ds.n x.ds.c, .slice x.se.p x.se.n x.se.c, .slice x.da.p x.da.n x.da.c]] w (GotBE w (headL x.ik C.id) (idE x.ik x.id.n)) := by
  have HB := hidden ((Below.refl w.heap.size w).alloc (Nat.le_refl _) (.cells #[.int .i64 35, .slice x.pr.p x.pr.n x.pr.c, .int .i64 x.eg, .slice x.ed.p x.ed.n x.ed.c, .int .i64 x.ik, .slice x.id.p x.id.n x.id.c, .int .i64 x.am, .slice x.ad.p x.ad.n x.ad.c, .int .i64 x.np, .slice x.ns.p x.ns.n x.ns.c, .int .i64 x.nt, .slice x.nd.p x.nd.n x.nd.c, .int .i64 x.dp, .slice x.ds.p x.ds.n x.ds.c, .slice x.se.p x.se.n x.se.c, .slice x.da.p x.da.n x.da.c] 56))
  have hx1 := mod256_rng x.ik
  have hwr : IntKind.u8.wrap x.ik = x.ik % 256 := by rw [IntKind.wrap_u8]
  have HL : Hid ([x.ik % 256, 0, 0, 0] ++ C.id = headL x.ik C.id) := rfl
  obtain ⟨E, hE⟩ : ∃ E, idE x.ik x.id.n = E := ⟨_, rfl⟩
  rw [hE]
  have HCE := hidden (fun W => checkIdentity_any x.ik x.id.p x.id.n x.id.c W (by omega) E hE)
  have k0 : (w.alloc (.cells #[.int .i64 35, .slice x.pr.p x.pr.n x.pr.c, .int .i64 x.eg, .slice x.ed.p x.ed.n x.ed.c, .int .i64 x.ik, .slice x.id.p x.id.n x.id.c, .int .i64 x.am, .slice x.ad.p x.ad.n x.ad.c, .int .i64 x.np, .slice x.ns.p x.ns.n x.ns.c, .int .i64 x.nt, .slice x.nd.p x.nd.n x.nd.c, .int .i64 x.dp, .slice x.ds.p x.ds.n x.ds.c, .slice x.se.p x.se.n x.se.c, .slice x.da.p x.da.n x.da.c] 56)).cell? ⟨w.heap.size, 4, none⟩ = some (.int .i64 x.ik) := by go_simp
  have k1 : (w.alloc (.cells #[.int .i64 35, .slice x.pr.p x.pr.n x.pr.c, .int .i64 x.eg, .slice x.ed.p x.ed.n x.ed.c, .int .i64 x.ik, .slice x.id.p x.id.n x.id.c, .int .i64 x.am, .slice x.ad.p x.ad.n x.ad.c, .int .i64 x.np, .slice x.ns.p x.ns.n x.ns.c, .int .i64 x.nt, .slice x.nd.p x.nd.n x.nd.c, .int .i64 x.dp, .slice x.ds.p x.ds.n x.ds.c, .slice x.se.p x.se.n x.se.c, .slice x.da.p x.da.n x.da.c] 56)).cell? ⟨w.heap.size, 5, none⟩ = some (.slice x.id.p x.id.n x.id.c) := by go_simp
  have HY := hidden (h.id.below HB.out)
  generalize headL x.ik C.id = L at *
  clear h hE
  go_enter Tryz.func45, Tryz.ntmps45
  go_upto_region 8 with fail
  generalize hw2 : (w.alloc (.cells #[.int .i64 35, .slice x.pr.p x.pr.n x.pr.c, .int .i64 x.eg, .slice x.ed.p x.ed.n x.ed.c, .int .i64 x.ik, .slice x.id.p x.id.n x.id.c, .int .i64 x.am, .slice x.ad.p x.ad.n x.ad.c, .int .i64 x.np, .slice x.ns.p x.ns.n x.ns.c, .int .i64 x.nt, .slice x.nd.p x.nd.n x.nd.c, .int .i64 x.dp, .slice x.ds.p x.ds.n x.ds.c, .slice x.se.p x.se.n x.se.c, .slice x.da.p x.da.n x.da.c] 56)) = w2 at *
  have hb2 := HB.out
  have HKK := hidden (fun W (hW : Below w2.heap.size w2 W) => (⟨cell_below hW _ _ k0, cell_below hW _ _ k1⟩ : W.cell? ⟨w.heap.size, 4, none⟩ = some (.int .i64 x.ik) ∧ W.cell? ⟨w.heap.size, 5, none⟩ = some (.slice x.id.p x.id.n x.id.c)))
  have HBF := hidden (fun W (hW : Below w2.heap.size w2 W) => before1 (x.ik % 256) 0 0 0 hx1 (by omega) (by omega) (by omega) _ _ _ C.id W (HY.out.below hW) (by omega) L HL.out)
  have HBA := hidden (fun W hW => before1_at (x.ik % 256) 0 0 0 hx1 (by omega) (by omega) (by omega) _ _ _ C.id w2 W HY.out (by omega) L HL.out hW)
  have HR0 := hidden (show Below w2.heap.size w2 w2.drew from drew_below ⟨1, rfl⟩)
  have HRA := hidden (show Below w2.heap.size w2 (w2.alloc (.cells #[.slice x.id.p x.id.n x.id.c] 22)).drew from ((Below.refl _ w2).alloc (Nat.le_refl _) _).trans (drew_below ⟨1, rfl⟩))
  have HFIN := hidden (fun (q : Option Addr) (d : Nat) W (hf : Frs W w2.heap.size q L.length d L) (hW : Below w2.heap.size w2 W) => show GotBE w L E (.returned (.tuple #[.slice q L.length d, .int .i64 E])) W from ⟨q, d, rfl, hf.mono hb2.size, hb2.trans (hW.mono hb2.size)⟩)
  clear hw2 hb2 HB
  generalize w.heap.size = N at *
  go_region_held3 (fun W => W.cell? ⟨N, 4, none⟩ = some (.int .i64 x.ik) ∧ W.cell? ⟨N, 5, none⟩ = some (.slice x.id.p x.id.n x.id.c))
    (first | exact HKK.out _ HB5.out | exact HKK.out _ HB6.out | exact HKK.out _ HR0.out | exact HKK.out _ HRA.out | go_keep)
    (first
    | (go_at_call 63; (with_reducible refine (HBA.out _ (Below.refl _ _)).mono ?_); rintro e w5 ⟨q5, d5, rfl, hf5, hb5⟩; have HF5 := hidden (hf5.mono HRA.out.size); have HB5 : Hid (Below w2.heap.size w2 w5) := hidden (HRA.out.trans (hb5.mono HRA.out.size)); clear hf5 hb5)
    | (go_at_call 63; (with_reducible refine (HBF.out _ HB6.out).mono ?_); rintro e w5 ⟨q5, d5, rfl, hf5, hb5⟩; have HF5 := hidden (hf5.mono HB6.out.size); have HB5 : Hid (Below w2.heap.size w2 w5) := hidden (HB6.out.trans (hb5.mono HB6.out.size)); clear hf5 hb5)
    | (go_at_call 63; (with_reducible refine (HBA.out _ HX6.out).mono ?_); rintro e w5 ⟨q5, d5, rfl, hf5, hb5⟩; have HF5 := hidden (hf5.mono HB6.out.size); have HB5 : Hid (Below w2.heap.size w2 w5) := hidden (HB6.out.trans (hb5.mono HB6.out.size)); clear hf5 hb5)
    | (go_at_call 64; (with_reducible refine (HCE.out (w2.alloc (.cells #[.slice x.id.p x.id.n x.id.c] 22)).drew).mono ?_); rintro e w6 ⟨rfl, hb6⟩; have HX6 := hidden hb6; have HB6 : Hid (Below w2.heap.size w2 w6) := hidden (HRA.out.trans (hb6.mono HRA.out.size)); clear hb6)
    | (go_at_call 64; (with_reducible refine (HCE.out _).mono ?_); rintro e w6 ⟨rfl, hb6⟩; have HB6 : Hid (Below w2.heap.size w2 w6) := hidden (by first | exact HB5.out.trans (hb6.mono HB5.out.size) | exact HR0.out.trans (hb6.mono HR0.out.size)); have HF6 : Hid (∀ q d, Frs w5 w2.heap.size q L.length d L → Frs w6 w2.heap.size q L.length d L) := hidden (fun q d hf => hf.below hb6); clear hb6)
    | fail)
  all_goals
    go_wp2
    go_ret2
    first
      | exact HFIN.out q5 d5 _ HF5.out HB5.out
      | exact HFIN.out q5 d5 _ (HF6.out _ _ HF5.out) HB6.out
set_option maxHeartbeats 3200000 in
set_option maxRecDepth 100000 in
theorem pb_36 (x : Pv) (C : Pc) (w : World) (h : R35 w x C) (hn : x.id.n ≤ 1000000) :
    Calls Tryz.prog 45 #[.agg #[.int .i64 36, .slice x.pr.p x.pr.n x.pr.c, .int .i64 x.eg, .slice x.ed.p x.ed.n x.ed.c, .int .i64 x.ik, .slice x.id.p x.id.n x.id.c, .int .i64 x.am, .slice x.ad.p x.ad.n x.ad.c, .int .i64 x.np, .slice x.ns.p x.ns.n x.ns.c, .int .i64 x.nt, .slice x.nd.p x.nd.n x.nd.c, .int .i64 x.dp, .slice x.ds.p x.ds.n x.ds.c, .slice x.se.p x.se.n x.se.c, .slice x.da.p x.da.n x.da.c]] w (GotBE w (headL x.ik C.id) (idE x.ik x.id.n)) := by
  have HB := hidden ((Below.refl w.heap.size w).alloc (Nat.le_refl _) (.cells #[.int .i64 36, .slice x.pr.p x.pr.n x.pr.c, .int .i64 x.eg, .slice x.ed.p x.ed.n x.ed.c, .int .i64 x.ik, .slice x.id.p x.id.n x.id.c, .int .i64 x.am, .slice x.ad.p x.ad.n x.ad.c, .int .i64 x.np, .slice x.ns.p x.ns.n x.ns.c, .int .i64 x.nt, .slice x.nd.p x.nd.n x.nd.c, .int .i64 x.dp, .slice x.ds.p x.ds.n x.ds.c, .slice x.se.p x.se.n x.se.c, .slice x.da.p x.da.n x.da.c] 56))
  have hx1 := mod256_rng x.ik
  have hwr : IntKind.u8.wrap x.ik = x.ik % 256 := by rw [IntKind.wrap_u8]
  have HL : Hid ([x.ik % 256, 0, 0, 0] ++ C.id = headL x.ik C.id) := rfl
  obtain ⟨E, hE⟩ : ∃ E, idE x.ik x.id.n = E := ⟨_, rfl⟩
  rw [hE]
  have HCE := hidden (fun W => checkIdentity_any x.ik x.id.p x.id.n x.id.c W (by omega) E hE)
  have k0 : (w.alloc (.cells #[.int .i64 36, .slice x.pr.p x.pr.n x.pr.c, .int .i64 x.eg, .slice x.ed.p x.ed.n x.ed.c, .int .i64 x.ik, .slice x.id.p x.id.n x.id.c, .int .i64 x.am, .slice x.ad.p x.ad.n x.ad.c, .int .i64 x.np, .slice x.ns.p x.ns.n x.ns.c, .int .i64 x.nt, .slice x.nd.p x.nd.n x.nd.c, .int .i64 x.dp, .slice x.ds.p x.ds.n x.ds.c, .slice x.se.p x.se.n x.se.c, .slice x.da.p x.da.n x.da.c] 56)).cell? ⟨w.heap.size, 4, none⟩ = some (.int .i64 x.ik) := by go_simp
  have k1 : (w.alloc (.cells #[.int .i64 36, .slice x.pr.p x.pr.n x.pr.c, .int .i64 x.eg, .slice x.ed.p x.ed.n x.ed.c, .int .i64 x.ik, .slice x.id.p x.id.n x.id.c, .int .i64 x.am, .slice x.ad.p x.ad.n x.ad.c, .int .i64 x.np, .slice x.ns.p x.ns.n x.ns.c, .int .i64 x.nt, .slice x.nd.p x.nd.n x.nd.c, .int .i64 x.dp, .slice x.ds.p x.ds.n x.ds.c, .slice x.se.p x.se.n x.se.c, .slice x.da.p x.da.n x.da.c] 56)).cell? ⟨w.heap.size, 5, none⟩ = some (.slice x.id.p x.id.n x.id.c) := by go_simp
  have HY := hidden (h.id.below HB.out)
  generalize headL x.ik C.id = L at *
  clear h hE
  go_enter Tryz.func45, Tryz.ntmps45
  go_upto_region 8 with fail
  generalize hw2 : (w.alloc (.cells #[.int .i64 36, .slice x.pr.p x.pr.n x.pr.c, .int .i64 x.eg, .slice x.ed.p x.ed.n x.ed.c, .int .i64 x.ik, .slice x.id.p x.id.n x.id.c, .int .i64 x.am, .slice x.ad.p x.ad.n x.ad.c, .int .i64 x.np, .slice x.ns.p x.ns.n x.ns.c, .int .i64 x.nt, .slice x.nd.p x.nd.n x.nd.c, .int .i64 x.dp, .slice x.ds.p x.ds.n x.ds.c, .slice x.se.p x.se.n x.se.c, .slice x.da.p x.da.n x.da.c] 56)) = w2 at *
  have hb2 := HB.out
  have HKK := hidden (fun W (hW : Below w2.heap.size w2 W) => (⟨cell_below hW _ _ k0, cell_below hW _ _ k1⟩ : W.cell? ⟨w.heap.size, 4, none⟩ = some (.int .i64 x.ik) ∧ W.cell? ⟨w.heap.size, 5, none⟩ = some (.slice x.id.p x.id.n x.id.c)))
  have HBF := hidden (fun W (hW : Below w2.heap.size w2 W) => before1 (x.ik % 256) 0 0 0 hx1 (by omega) (by omega) (by omega) _ _ _ C.id W (HY.out.below hW) (by omega) L HL.out)
  have HBA := hidden (fun W hW => before1_at (x.ik % 256) 0 0 0 hx1 (by omega) (by omega) (by omega) _ _ _ C.id w2 W HY.out (by omega) L HL.out hW)
  have HR0 := hidden (show Below w2.heap.size w2 w2.drew from drew_below ⟨1, rfl⟩)
  have HRA := hidden (show Below w2.heap.size w2 (w2.alloc (.cells #[.slice x.id.p x.id.n x.id.c] 22)).drew from ((Below.refl _ w2).alloc (Nat.le_refl _) _).trans (drew_below ⟨1, rfl⟩))
  have HFIN := hidden (fun (q : Option Addr) (d : Nat) W (hf : Frs W w2.heap.size q L.length d L) (hW : Below w2.heap.size w2 W) => show GotBE w L E (.returned (.tuple #[.slice q L.length d, .int .i64 E])) W from ⟨q, d, rfl, hf.mono hb2.size, hb2.trans (hW.mono hb2.size)⟩)
  clear hw2 hb2 HB
  generalize w.heap.size = N at *
  go_region_held3 (fun W => W.cell? ⟨N, 4, none⟩ = some (.int .i64 x.ik) ∧ W.cell? ⟨N, 5, none⟩ = some (.slice x.id.p x.id.n x.id.c))
    (first | exact HKK.out _ HB5.out | exact HKK.out _ HB6.out | exact HKK.out _ HR0.out | exact HKK.out _ HRA.out | go_keep)
    (first
    | (go_at_call 63; (with_reducible refine (HBA.out _ (Below.refl _ _)).mono ?_); rintro e w5 ⟨q5, d5, rfl, hf5, hb5⟩; have HF5 := hidden (hf5.mono HRA.out.size); have HB5 : Hid (Below w2.heap.size w2 w5) := hidden (HRA.out.trans (hb5.mono HRA.out.size)); clear hf5 hb5)
    | (go_at_call 63; (with_reducible refine (HBF.out _ HB6.out).mono ?_); rintro e w5 ⟨q5, d5, rfl, hf5, hb5⟩; have HF5 := hidden (hf5.mono HB6.out.size); have HB5 : Hid (Below w2.heap.size w2 w5) := hidden (HB6.out.trans (hb5.mono HB6.out.size)); clear hf5 hb5)
    | (go_at_call 63; (with_reducible refine (HBA.out _ HX6.out).mono ?_); rintro e w5 ⟨q5, d5, rfl, hf5, hb5⟩; have HF5 := hidden (hf5.mono HB6.out.size); have HB5 : Hid (Below w2.heap.size w2 w5) := hidden (HB6.out.trans (hb5.mono HB6.out.size)); clear hf5 hb5)
    | (go_at_call 64; (with_reducible refine (HCE.out (w2.alloc (.cells #[.slice x.id.p x.id.n x.id.c] 22)).drew).mono ?_); rintro e w6 ⟨rfl, hb6⟩; have HX6 := hidden hb6; have HB6 : Hid (Below w2.heap.size w2 w6) := hidden (HRA.out.trans (hb6.mono HRA.out.size)); clear hb6)
    | (go_at_call 64; (with_reducible refine (HCE.out _).mono ?_); rintro e w6 ⟨rfl, hb6⟩; have HB6 : Hid (Below w2.heap.size w2 w6) := hidden (by first | exact HB5.out.trans (hb6.mono HB5.out.size) | exact HR0.out.trans (hb6.mono HR0.out.size)); have HF6 : Hid (∀ q d, Frs w5 w2.heap.size q L.length d L → Frs w6 w2.heap.size q L.length d L) := hidden (fun q d hf => hf.below hb6); clear hb6)
    | fail)
  all_goals
    go_wp2
    go_ret2
    first
      | exact HFIN.out q5 d5 _ HF5.out HB5.out
      | exact HFIN.out q5 d5 _ (HF6.out _ _ HF5.out) HB6.out
set_option maxHeartbeats 3200000 in
set_option maxRecDepth 100000 in
theorem pb_39 (x : Pv) (C : Pc) (w : World) (h : R39 w x C) (hn : x.ad.n ≤ 1000000) :
    Calls Tryz.prog 45 #[.agg #[.int .i64 39, .slice x.pr.p x.pr.n x.pr.c, .int .i64 x.eg, .slice x.ed.p x.ed.n x.ed.c, .int .i64 x.ik, .slice x.id.p x.id.n x.id.c, .int .i64 x.am, .slice x.ad.p x.ad.n x.ad.c, .int .i64 x.np, .slice x.ns.p x.ns.n x.ns.c, .int .i64 x.nt, .slice x.nd.p x.nd.n x.nd.c, .int .i64 x.dp, .slice x.ds.p x.ds.n x.ds.c, .slice x.se.p x.se.n x.se.c, .slice x.da.p x.da.n x.da.c]] w (GotBE w (headL x.am C.ad) (authE x.am x.ad.n)) := by
  have HB := hidden ((Below.refl w.heap.size w).alloc (Nat.le_refl _) (.cells #[.int .i64 39, .slice x.pr.p x.pr.n x.pr.c, .int .i64 x.eg, .slice x.ed.p x.ed.n x.ed.c, .int .i64 x.ik, .slice x.id.p x.id.n x.id.c, .int .i64 x.am, .slice x.ad.p x.ad.n x.ad.c, .int .i64 x.np, .slice x.ns.p x.ns.n x.ns.c, .int .i64 x.nt, .slice x.nd.p x.nd.n x.nd.c, .int .i64 x.dp, .slice x.ds.p x.ds.n x.ds.c, .slice x.se.p x.se.n x.se.c, .slice x.da.p x.da.n x.da.c] 56))
  have hx1 := mod256_rng x.am
  have hwr : IntKind.u8.wrap x.am = x.am % 256 := by rw [IntKind.wrap_u8]
  have HL : Hid ([x.am % 256, 0, 0, 0] ++ C.ad = headL x.am C.ad) := rfl
  obtain ⟨E, hE⟩ : ∃ E, authE x.am x.ad.n = E := ⟨_, rfl⟩
  rw [hE]
  have HCE := hidden (fun W => checkAuth_any x.am x.ad.p x.ad.n x.ad.c W (by omega) E hE)
  have k0 : (w.alloc (.cells #[.int .i64 39, .slice x.pr.p x.pr.n x.pr.c, .int .i64 x.eg, .slice x.ed.p x.ed.n x.ed.c, .int .i64 x.ik, .slice x.id.p x.id.n x.id.c, .int .i64 x.am, .slice x.ad.p x.ad.n x.ad.c, .int .i64 x.np, .slice x.ns.p x.ns.n x.ns.c, .int .i64 x.nt, .slice x.nd.p x.nd.n x.nd.c, .int .i64 x.dp, .slice x.ds.p x.ds.n x.ds.c, .slice x.se.p x.se.n x.se.c, .slice x.da.p x.da.n x.da.c] 56)).cell? ⟨w.heap.size, 6, none⟩ = some (.int .i64 x.am) := by go_simp
  have k1 : (w.alloc (.cells #[.int .i64 39, .slice x.pr.p x.pr.n x.pr.c, .int .i64 x.eg, .slice x.ed.p x.ed.n x.ed.c, .int .i64 x.ik, .slice x.id.p x.id.n x.id.c, .int .i64 x.am, .slice x.ad.p x.ad.n x.ad.c, .int .i64 x.np, .slice x.ns.p x.ns.n x.ns.c, .int .i64 x.nt, .slice x.nd.p x.nd.n x.nd.c, .int .i64 x.dp, .slice x.ds.p x.ds.n x.ds.c, .slice x.se.p x.se.n x.se.c, .slice x.da.p x.da.n x.da.c] 56)).cell? ⟨w.heap.size, 7, none⟩ = some (.slice x.ad.p x.ad.n x.ad.c) := by go_simp
  have HY := hidden (h.ad.below HB.out)
  generalize headL x.am C.ad = L at *
  clear h hE
  go_enter Tryz.func45, Tryz.ntmps45
  go_upto_region 10 with fail
  generalize hw2 : (w.alloc (.cells #[.int .i64 39, .slice x.pr.p x.pr.n x.pr.c, .int .i64 x.eg, .slice x.ed.p x.ed.n x.ed.c, .int .i64 x.ik, .slice x.id.p x.id.n x.id.c, .int .i64 x.am, .slice x.ad.p x.ad.n x.ad.c, .int .i64 x.np, .slice x.ns.p x.ns.n x.ns.c, .int .i64 x.nt, .slice x.nd.p x.nd.n x.nd.c, .int .i64 x.dp, .slice x.ds.p x.ds.n x.ds.c, .slice x.se.p x.se.n x.se.c, .slice x.da.p x.da.n x.da.c] 56)) = w2 at *
  have hb2 := HB.out
  have HKK := hidden (fun W (hW : Below w2.heap.size w2 W) => (⟨cell_below hW _ _ k0, cell_below hW _ _ k1⟩ : W.cell? ⟨w.heap.size, 6, none⟩ = some (.int .i64 x.am) ∧ W.cell? ⟨w.heap.size, 7, none⟩ = some (.slice x.ad.p x.ad.n x.ad.c)))
  have HBF := hidden (fun W (hW : Below w2.heap.size w2 W) => before1 (x.am % 256) 0 0 0 hx1 (by omega) (by omega) (by omega) _ _ _ C.ad W (HY.out.below hW) (by omega) L HL.out)
  have HBA := hidden (fun W hW => before1_at (x.am % 256) 0 0 0 hx1 (by omega) (by omega) (by omega) _ _ _ C.ad w2 W HY.out (by omega) L HL.out hW)
  have HR0 := hidden (show Below w2.heap.size w2 w2.drew from drew_below ⟨1, rfl⟩)
  have HRA := hidden (show Below w2.heap.size w2 (w2.alloc (.cells #[.slice x.ad.p x.ad.n x.ad.c] 22)).drew from ((Below.refl _ w2).alloc (Nat.le_refl _) _).trans (drew_below ⟨1, rfl⟩))
  have HFIN := hidden (fun (q : Option Addr) (d : Nat) W (hf : Frs W w2.heap.size q L.length d L) (hW : Below w2.heap.size w2 W) => show GotBE w L E (.returned (.tuple #[.slice q L.length d, .int .i64 E])) W from ⟨q, d, rfl, hf.mono hb2.size, hb2.trans (hW.mono hb2.size)⟩)
  clear hw2 hb2 HB
  generalize w.heap.size = N at *
  go_region_held3 (fun W => W.cell? ⟨N, 6, none⟩ = some (.int .i64 x.am) ∧ W.cell? ⟨N, 7, none⟩ = some (.slice x.ad.p x.ad.n x.ad.c))
    (first | exact HKK.out _ HB5.out | exact HKK.out _ HB6.out | exact HKK.out _ HR0.out | exact HKK.out _ HRA.out | go_keep)
    (first
    | (go_at_call 63; (with_reducible refine (HBA.out _ (Below.refl _ _)).mono ?_); rintro e w5 ⟨q5, d5, rfl, hf5, hb5⟩; have HF5 := hidden (hf5.mono HRA.out.size); have HB5 : Hid (Below w2.heap.size w2 w5) := hidden (HRA.out.trans (hb5.mono HRA.out.size)); clear hf5 hb5)
    | (go_at_call 63; (with_reducible refine (HBF.out _ HB6.out).mono ?_); rintro e w5 ⟨q5, d5, rfl, hf5, hb5⟩; have HF5 := hidden (hf5.mono HB6.out.size); have HB5 : Hid (Below w2.heap.size w2 w5) := hidden (HB6.out.trans (hb5.mono HB6.out.size)); clear hf5 hb5)
    | (go_at_call 63; (with_reducible refine (HBA.out _ HX6.out).mono ?_); rintro e w5 ⟨q5, d5, rfl, hf5, hb5⟩; have HF5 := hidden (hf5.mono HB6.out.size); have HB5 : Hid (Below w2.heap.size w2 w5) := hidden (HB6.out.trans (hb5.mono HB6.out.size)); clear hf5 hb5)
    | (go_at_call 65; (with_reducible refine (HCE.out (w2.alloc (.cells #[.slice x.ad.p x.ad.n x.ad.c] 22)).drew).mono ?_); rintro e w6 ⟨rfl, hb6⟩; have HX6 := hidden hb6; have HB6 : Hid (Below w2.heap.size w2 w6) := hidden (HRA.out.trans (hb6.mono HRA.out.size)); clear hb6)
    | (go_at_call 65; (with_reducible refine (HCE.out _).mono ?_); rintro e w6 ⟨rfl, hb6⟩; have HB6 : Hid (Below w2.heap.size w2 w6) := hidden (by first | exact HB5.out.trans (hb6.mono HB5.out.size) | exact HR0.out.trans (hb6.mono HR0.out.size)); have HF6 : Hid (∀ q d, Frs w5 w2.heap.size q L.length d L → Frs w6 w2.heap.size q L.length d L) := hidden (fun q d hf => hf.below hb6); clear hb6)
    | fail)
  all_goals
    go_wp2
    go_ret2
    first
      | exact HFIN.out q5 d5 _ HF5.out HB5.out
      | exact HFIN.out q5 d5 _ (HF6.out _ _ HF5.out) HB6.out
set_option maxHeartbeats 3200000 in
set_option maxRecDepth 100000 in
theorem pb_40 (x : Pv) (C : Pc) (w : World) (h : RX w x C) (hn : x.da.n ≤ 1000000) :
    Calls Tryz.prog 45 #[.agg #[.int .i64 40, .slice x.pr.p x.pr.n x.pr.c, .int .i64 x.eg, .slice x.ed.p x.ed.n x.ed.c, .int .i64 x.ik, .slice x.id.p x.id.n x.id.c, .int .i64 x.am, .slice x.ad.p x.ad.n x.ad.c, .int .i64 x.np, .slice x.ns.p x.ns.n x.ns.c, .int .i64 x.nt, .slice x.nd.p x.nd.n x.nd.c, .int .i64 x.dp, .slice x.ds.p x.ds.n x.ds.c, .slice x.se.p x.se.n x.se.c, .slice x.da.p x.da.n x.da.c]] w (GotBE w (C.da) (nonceE x.da.n)) := by
  have HB := hidden ((Below.refl w.heap.size w).alloc (Nat.le_refl _) (.cells #[.int .i64 40, .slice x.pr.p x.pr.n x.pr.c, .int .i64 x.eg, .slice x.ed.p x.ed.n x.ed.c, .int .i64 x.ik, .slice x.id.p x.id.n x.id.c, .int .i64 x.am, .slice x.ad.p x.ad.n x.ad.c, .int .i64 x.np, .slice x.ns.p x.ns.n x.ns.c, .int .i64 x.nt, .slice x.nd.p x.nd.n x.nd.c, .int .i64 x.dp, .slice x.ds.p x.ds.n x.ds.c, .slice x.se.p x.se.n x.se.c, .slice x.da.p x.da.n x.da.c] 56))
  have HY := hidden (h.da.below HB.out)
  have HLN := hidden h.da.len
  have HLR := hidden h.da.rng
  have k1 : (w.alloc (.cells #[.int .i64 40, .slice x.pr.p x.pr.n x.pr.c, .int .i64 x.eg, .slice x.ed.p x.ed.n x.ed.c, .int .i64 x.ik, .slice x.id.p x.id.n x.id.c, .int .i64 x.am, .slice x.ad.p x.ad.n x.ad.c, .int .i64 x.np, .slice x.ns.p x.ns.n x.ns.c, .int .i64 x.nt, .slice x.nd.p x.nd.n x.nd.c, .int .i64 x.dp, .slice x.ds.p x.ds.n x.ds.c, .slice x.se.p x.se.n x.se.c, .slice x.da.p x.da.n x.da.c] 56)).cell? ⟨w.heap.size, 15, none⟩ = some (.slice x.da.p x.da.n x.da.c) := by go_simp
  have HCN := hidden (fun W => checkNonce_any x.da.p x.da.n x.da.c W (by omega))
  obtain ⟨L, hL⟩ : ∃ L, C.da = L := ⟨_, rfl⟩
  rw [hL] at HY HLN HLR ⊢
  generalize nonceE x.da.n = E at *
  clear h hL
  go_enter Tryz.func45, Tryz.ntmps45
  go_upto_region 12 with fail
  generalize hw2 : (w.alloc (.cells #[.int .i64 40, .slice x.pr.p x.pr.n x.pr.c, .int .i64 x.eg, .slice x.ed.p x.ed.n x.ed.c, .int .i64 x.ik, .slice x.id.p x.id.n x.id.c, .int .i64 x.am, .slice x.ad.p x.ad.n x.ad.c, .int .i64 x.np, .slice x.ns.p x.ns.n x.ns.c, .int .i64 x.nt, .slice x.nd.p x.nd.n x.nd.c, .int .i64 x.dp, .slice x.ds.p x.ds.n x.ds.c, .slice x.se.p x.se.n x.se.c, .slice x.da.p x.da.n x.da.c] 56)) = w2 at *
  have hb2 := HB.out
  have HKK := hidden (fun W (hW : Below w2.heap.size w2 W) => cell_below hW _ _ k1)
  have HCL := hidden (fun W (hW : Below w2.heap.size w2 W) => clone_any _ _ _ L W (HY.out.below hW) (by omega))
  have HR0 := hidden (show Below w2.heap.size w2 w2.drew from drew_below ⟨1, rfl⟩)
  have HFIN := hidden (fun (q : Option Addr) (d : Nat) W (hf : Frs W w2.heap.size q L.length d L) (hW : Below w2.heap.size w2 W) => show GotBE w L E (.returned (.tuple #[.slice q L.length d, .int .i64 E])) W from ⟨q, d, rfl, hf.mono hb2.size, hb2.trans (hW.mono hb2.size)⟩)
  clear hw2 hb2 HB
  generalize w.heap.size = N at *
  go_region_held3 (fun W => W.cell? ⟨N, 15, none⟩ = some (.slice x.da.p x.da.n x.da.c))
    (first | exact HKK.out _ HB5.out | exact HKK.out _ HR0.out | go_keep)
    (first
    | (go_at_call 50; (with_reducible refine (HCL.out _ HR0.out).mono ?_); rintro e w5 ⟨v5, rfl, ho5, hb5⟩; obtain ⟨q5, d5, rfl, hf5⟩ := ho5.frs rfl HLR.out; have HF5 := hidden (hf5.mono HR0.out.size); have HB5 : Hid (Below w2.heap.size w2 w5) := hidden (HR0.out.trans (hb5.mono HR0.out.size)); clear hf5 hb5 ho5)
    | (go_at_call 66; (with_reducible refine (HCN.out _).mono ?_); rintro e w6 ⟨rfl, rfl⟩)
    | fail)
  all_goals
    go_wp2
    go_ret2
    exact HFIN.out q5 d5 _ HF5.out HB5.out
set_option maxHeartbeats 3200000 in
set_option maxRecDepth 100000 in
theorem pb_X (x : Pv) (C : Pc) (w : World) (t : Int) (h : RX w x C) (hn : x.da.n ≤ 1000000) (hk33 : t ≠ 33) (hk34 : t ≠ 34) (hk35 : t ≠ 35) (hk36 : t ≠ 36) (hk39 : t ≠ 39) (hk40 : t ≠ 40) (hk41 : t ≠ 41) (hk42 : t ≠ 42) (hk44 : t ≠ 44) (hk45 : t ≠ 45) :
    Calls Tryz.prog 45 #[.agg #[.int .i64 t, .slice x.pr.p x.pr.n x.pr.c, .int .i64 x.eg, .slice x.ed.p x.ed.n x.ed.c, .int .i64 x.ik, .slice x.id.p x.id.n x.id.c, .int .i64 x.am, .slice x.ad.p x.ad.n x.ad.c, .int .i64 x.np, .slice x.ns.p x.ns.n x.ns.c, .int .i64 x.nt, .slice x.nd.p x.nd.n x.nd.c, .int .i64 x.dp, .slice x.ds.p x.ds.n x.ds.c, .slice x.se.p x.se.n x.se.c, .slice x.da.p x.da.n x.da.c]] w (GotBE w C.da 0) := by
  have HB := hidden ((Below.refl w.heap.size w).alloc (Nat.le_refl _) (.cells #[.int .i64 t, .slice x.pr.p x.pr.n x.pr.c, .int .i64 x.eg, .slice x.ed.p x.ed.n x.ed.c, .int .i64 x.ik, .slice x.id.p x.id.n x.id.c, .int .i64 x.am, .slice x.ad.p x.ad.n x.ad.c, .int .i64 x.np, .slice x.ns.p x.ns.n x.ns.c, .int .i64 x.nt, .slice x.nd.p x.nd.n x.nd.c, .int .i64 x.dp, .slice x.ds.p x.ds.n x.ds.c, .slice x.se.p x.se.n x.se.c, .slice x.da.p x.da.n x.da.c] 56))
  have k33 : (t == 33) = false := by simpa using hk33
  have k34 : (t == 34) = false := by simpa using hk34
  have k35 : (t == 35) = false := by simpa using hk35
  have k36 : (t == 36) = false := by simpa using hk36
  have k39 : (t == 39) = false := by simpa using hk39
  have k40 : (t == 40) = false := by simpa using hk40
  have k41 : (t == 41) = false := by simpa using hk41
  have k42 : (t == 42) = false := by simpa using hk42
  have k44 : (t == 44) = false := by simpa using hk44
  have k45 : (t == 45) = false := by simpa using hk45
  have HCL := hidden (clone_any _ _ _ C.da _ (h.da.below HB.out) (by omega))
  have HLR := hidden h.da.rng
  obtain ⟨L, hL⟩ : ∃ L, C.da = L := ⟨_, rfl⟩
  rw [hL] at HCL HLR ⊢
  clear h hL hk33 hk34 hk35 hk36 hk39 hk40 hk41 hk42 hk44 hk45
  go_enter Tryz.func45, Tryz.ntmps45
  go_wp2_with (first
    | (go_at_call 50; (with_reducible refine (HCL.out).mono ?_); rintro e w5 ⟨v5, rfl, ho5, hb5⟩; obtain ⟨q5, d5, rfl, hf5⟩ := ho5.frs rfl HLR.out; have HF5 := hidden (hf5.mono HB.out.size); have HB5 := hidden (HB.out.trans (hb5.mono HB.out.size)); clear hf5 hb5 ho5)
    | fail)
  go_ret2
  exact ⟨q5, d5, rfl, HF5.out, HB5.out⟩
end Go.Proofs.YtnbkffehhahckaaGreat

namespace Go.Proofs.YtnbkffehhahckaaGreat
open Go.RowKit
set_option linter.unusedVariables false
theorem one_len {xs : List Int} {s : Sl} {k : Nat} (h : oneS xs = some (s, k)) : k ≤ xs.length ∧ (k = 16 ∨ k = 40) := by
  unfold oneS at h
  split at h
  · cases h
  split at h
  · rename_i h1
    obtain ⟨-, rfl⟩ := Prod.mk.inj (Option.some.inj h)
    exact ⟨h1.2.2, Or.inl rfl⟩
  split at h
  · rename_i h1
    obtain ⟨-, rfl⟩ := Prod.mk.inj (Option.some.inj h)
    exact ⟨h1.2.2, Or.inr rfl⟩
  · cases h
theorem nAt_bd (xs : List Int) (hr : ∀ x ∈ xs, 0 ≤ x ∧ x ≤ 255) (a k : Nat) (hk : k ≤ 8) : 0 ≤ nAt xs a k ∧ nAt xs a k ≤ 18446744073709551615 := by
  have hb := val_bd ((xs.drop a).take k) (rng_take (rng_drop hr _) _)
  have hl : ((xs.drop a).take k).length ≤ 8 := by simp; omega
  have h8 := pow256_le hl
  have e : (256 : Int) ^ 8 = 18446744073709551616 := by decide
  rw [e] at h8
  unfold nAt
  omega
theorem nAt_two (xs : List Int) (hr : ∀ x ∈ xs, 0 ≤ x ∧ x ≤ 255) (a k : Nat) (hk : k ≤ 2) : nAt xs a k ≤ 65535 := by
  have hb := val_bd ((xs.drop a).take k) (rng_take (rng_drop hr _) _)
  have hl : ((xs.drop a).take k).length ≤ 2 := by simp; omega
  have h8 := pow256_le hl
  have e : (256 : Int) ^ 2 = 65536 := by decide
  rw [e] at h8
  unfold nAt
  omega
theorem one_fit {xs : List Int} (hr : ∀ x ∈ xs, 0 ≤ x ∧ x ≤ 255) {s : Sl} {k : Nat} (h : oneS xs = some (s, k)) : FitS s := by
  have h0 := rng_getD hr 1
  have b := nAt_bd xs hr
  have t := nAt_two xs hr
  unfold oneS at h
  split at h
  · cases h
  split at h
  · obtain ⟨rfl, -⟩ := Prod.mk.inj (Option.some.inj h)
    have b1 := b 4 2 (by omega)
    have b2 := b 6 2 (by omega)
    have t1 := t 4 2 (by omega)
    have t2 := t 6 2 (by omega)
    exact ⟨by simp only; omega, by simp only; omega, by simp only; omega, ⟨by simp, by simp, b 8 4 (by omega)⟩, ⟨by simp, by simp, b 12 4 (by omega)⟩⟩
  split at h
  · obtain ⟨rfl, -⟩ := Prod.mk.inj (Option.some.inj h)
    have b1 := b 4 2 (by omega)
    have b2 := b 6 2 (by omega)
    have t1 := t 4 2 (by omega)
    have t2 := t 6 2 (by omega)
    exact ⟨by simp only; omega, by simp only; omega, by simp only; omega, ⟨by simp, b 8 8 (by omega), b 16 8 (by omega)⟩, ⟨by simp, b 24 8 (by omega), b 32 8 (by omega)⟩⟩
  · cases h
def ReadL (w : World) (r : Option (List Sl)) (e : Ending) (w' : World) : Prop := Below w.heap.size w w' ∧ match r with
  | none => ∃ v, e = .returned (.tuple #[v, .bool false])
  | some l => ∃ v, e = .returned (.tuple #[v, .bool true]) ∧ RowG KSl NSl w' w.heap.size v l
set_option maxHeartbeats 1600000 in
set_option maxRecDepth 100000 in
theorem sread_any (p : Option Addr) (n c : Nat) (xs : List Int) (w : World) (h : Byt w p n c xs) (N : Nat) (hN : N ≤ 255) (r : Option (List Sl)) (hr : manyS N xs = r) :
    Calls Tryz.prog 114 #[.slice p n c, .int .i64 N] w (ReadL w r) := by
  have HX := hidden h
  have HR := hidden hr
  clear h hr
  go_enter Tryz.func114, Tryz.ntmps114
  go_wp2
  go_loopw [0, 6, 11] (fun b v i wr => ∃ (j : Nat) (l : List Sl) (p' : Option Addr) (n' c' : Nat) (ys : List Int), i = .int .i64 j ∧ j ≤ N ∧ l.length = j ∧ b = .slice p' n' c' ∧ Byt w p' n' c' ys ∧ (manyS (N - j) ys).map (l ++ ·) = r ∧ RowG KSl NSl wr w.heap.size v l ∧ Below w.heap.size w wr) (fun _ _ i _ => N - (intOf i).toNat)
  case atStart => exact ⟨0, [], p, n, c, xs, rfl, by omega, rfl, rfl, HX.out, by rw [← HR.out]; simp, RowG.nil _ _ _ _, Below.refl _ _⟩
  case round =>
    obtain ⟨j, l, p', n', c', ys, rfl, hj, hlj, rfl, hby, hm, hrow, hb⟩ := hrel
    obtain ⟨po, co, rfl⟩ := hrow.form rfl
    have HLJ := hidden hlj
    have hl255 : l.length ≤ 255 := by omega
    clear hlj
    have HY := hidden hby
    have HRW := hidden hrow
    have HB := hidden hb
    have hn' := hby.le
    have hlen := hidden hby.len
    clear HX HR hrow
    by_cases hlt : j < N
    · have hlt' : (j : Int) < N := by omega
      rw [show N - j = (N - (j + 1)) + 1 by omega] at hm
      obtain ⟨o, ho⟩ : ∃ o, oneS ys = o := ⟨_, rfl⟩
      have HO := hidden (fun w (h : Byt w p' n' c' ys) => readOne_any p' n' c' ys w h o ho)
      have HYW := hidden (hby.below hb)
      unfold manyS at hm
      rw [ho] at hm
      cases o with
      | none =>
        have HM := hidden hm
        clear hm ho hby hb
        go_wp2_with (first
          | (go_at_call 123; (with_reducible refine (HO.out _ HYW.out).mono ?_); rintro e w1 ⟨hb1, rfl⟩; have HB1 := hidden (HB.out.trans (hb1.mono HB.out.size)); clear hb1)
          | fail)
        go_ret2
        have hM := HM.out
        simp only [Option.map_none] at hM
        subst hM
        exact ⟨HB1.out.alloc HB1.out.size _, _, rfl⟩
      | some sk =>
        obtain ⟨s, k'⟩ := sk
        simp only at hm
        obtain ⟨hk1, hk2⟩ := one_len ho
        rw [hby.len] at hk1
        have hfit := one_fit hby.rng ho
        obtain ⟨bb, oo, rfl, -⟩ := hby.at_ (by omega)
        have hpart := hby.part k' n' hk1 (Nat.le_refl _)
        rw [List.take_of_length_le (by rw [hby.len]; omega)] at hpart
        have hcap := hby.cap
        have HF := hidden hfit
        have HM := hidden hm
        have HPA := hidden hpart
        clear hm ho hby hb hfit hpart hk2
        have hcc : (c' = k' ∧ n' = k') ∨ c' ≠ k' := by omega
        rcases hcc with ⟨rfl, rfl⟩ | hcc
        all_goals
          first | (rw [if_pos rfl, Nat.sub_self] at HPA) | (rw [if_neg hcc, Option.map_some, WideShapes.add_plain] at HPA; replace HPA : Hid (Byt w (some ⟨bb, oo + k', none⟩) (n' - k') (c' - k') (List.drop k' ys)) := HPA)
          go_wp2_with (first
            | (go_at_call 123; (with_reducible refine (HO.out _ HYW.out).mono ?_); rintro e w1 ⟨hb1, rfl⟩; have HB1 := hidden ((HB.out.trans (hb1.mono HB.out.size)).alloc (HB.out.trans (hb1.mono HB.out.size)).size (.cells #[.int .i64 s.p, .int .i64 s.a, .int .i64 s.b, .int .i64 s.lo.f, .int .u64 s.lo.h, .int .u64 s.lo.l, .int .i64 s.hi.f, .int .u64 s.hi.h, .int .u64 s.hi.l] 113)); have HR1 := hidden (((HRW.out.below hb1).alloc (.cells #[.int .i64 s.p, .int .i64 s.a, .int .i64 s.b, .int .i64 s.lo.f, .int .u64 s.lo.h, .int .u64 s.lo.l, .int .i64 s.hi.f, .int .u64 s.hi.h, .int .u64 s.hi.l] 113)).alloc (.cells #[.int .i64 s.p, .int .i64 s.a, .int .i64 s.b, .int .i64 s.lo.f, .int .u64 s.lo.h, .int .u64 s.lo.l, .int .i64 s.hi.f, .int .u64 s.hi.h, .int .u64 s.hi.l] 113)); have HSR : Hid (SrcG KSl ((w1.alloc (.cells #[.int .i64 s.p, .int .i64 s.a, .int .i64 s.b, .int .i64 s.lo.f, .int .u64 s.lo.h, .int .u64 s.lo.l, .int .i64 s.hi.f, .int .u64 s.hi.h, .int .u64 s.hi.l] 113)).alloc (.cells #[.int .i64 s.p, .int .i64 s.a, .int .i64 s.b, .int .i64 s.lo.f, .int .u64 s.lo.h, .int .u64 s.lo.l, .int .i64 s.hi.f, .int .u64 s.hi.h, .int .u64 s.hi.l] 113)) (some ⟨w1.heap.size + 1, 0, none⟩) 1 [s]) := hidden (by have := srcSl (w1.alloc (.cells #[.int .i64 s.p, .int .i64 s.a, .int .i64 s.b, .int .i64 s.lo.f, .int .u64 s.lo.h, .int .u64 s.lo.l, .int .i64 s.hi.f, .int .u64 s.hi.h, .int .u64 s.hi.l] 113)) s 113; simpa using this); clear hb1)
            | (at_builtin; go_loud (refine wpList_append_g knownSl (by simp [NSl]) _ rfl _ _ rfl w.heap.size _ l rfl HR1.out _ 1 1 [s] rfl HSR.out (fun x hx => by rw [List.mem_singleton.1 hx]; exact HF.out) (by unfold maxLen; omega) (by omega) (by have := HB1.out.size; simp at this ⊢; omega) ?_))
            | fail)
          intro v' w4 hr4 hg4
          have HB4 := hidden ((HB1.out.alloc HB1.out.size (.cells #[.int .i64 s.p, .int .i64 s.a, .int .i64 s.b, .int .i64 s.lo.f, .int .u64 s.lo.h, .int .u64 s.lo.l, .int .i64 s.hi.f, .int .u64 s.hi.h, .int .u64 s.hi.l] 113)).grown hg4 (by have := HB1.out.size; simp at this ⊢; omega) (fun j hj => (HR1.out.lt j hj).1))
          have HR4 := hidden hr4
          clear hr4 hg4 HR1 HB1
          go_wp2
          go_roundw
          case rel => exact ⟨j + 1, l ++ [s], _, _, _, _, by go_num, by omega, by have := HLJ.out; simp; omega, rfl, HPA.out, by have hM := HM.out; rw [Option.map_map] at hM; rw [← hM]; congr 1; funext x; simp, HR4.out, HB4.out⟩
          case measure => simp [intOf]; omega
    · obtain rfl : j = N := by omega
      rw [Nat.sub_self] at hm
      unfold manyS at hm
      rw [hby.len] at hm
      by_cases h0 : n' = 0
      · subst h0
        simp at hm
        subst hm
        clear hby hb
        go_wp2
        go_ret2
        exact ⟨HB.out, _, rfl, HRW.out⟩
      · have h0' : ((n' : Int) == 0) = false := by simp; omega
        rw [if_neg h0] at hm
        simp only [Option.map_none] at hm
        subst hm
        clear hby hb
        go_wp2
        go_ret2
        exact ⟨HB.out, _, rfl⟩
def ParsedS (w : World) (r : List Sl × Int) (e : Ending) (w' : World) : Prop := ∃ v, e = .returned (.tuple #[v, .int .i64 r.2]) ∧ RowG KSl NSl w' w.heap.size v r.1 ∧ Below w.heap.size w w'
theorem parsed_none (w w' : World) (E : Int) (r : List Sl × Int) (h : ([], E) = r) (hb : Below w.heap.size w w') : ParsedS w r (.returned (.tuple #[.slice none 0 0, .int .i64 E])) w' := by
  subst h
  exact ⟨_, rfl, RowG.nil _ _ _ _, hb⟩
set_option maxHeartbeats 1600000 in
set_option maxRecDepth 100000 in
theorem sparse_any (p : Option Addr) (n c : Nat) (xs : List Int) (w : World) (h : Byt w p n c xs) (r : List Sl × Int) (hr : parseS xs = r) :
    Calls Tryz.prog 104 #[.slice p n c] w (ParsedS w r) := by
  have hn := h.le
  unfold parseS at hr
  rw [h.len] at hr
  by_cases h4 : n < 4
  · rw [if_pos h4] at hr
    have HR := hidden hr
    clear h hr
    go_enter Tryz.func104, Tryz.ntmps104
    go_wp2
    go_ret2
    exact parsed_none _ _ _ _ HR.out (Below.refl _ _)
  rw [if_neg h4] at hr
  obtain ⟨bb, oo, rfl, hcell⟩ := h.at_ (by omega)
  have c0 := hcell 0 (by omega)
  have x0 := rng_getD h.rng 0
  obtain ⟨N, hN⟩ := Int.eq_ofNat_of_zero_le x0.1
  rw [hN] at hr c0 x0
  rw [Nat.add_zero] at c0
  have hcap := h.cap
  by_cases h0 : (N : Int) = 0
  · rw [if_pos h0] at hr
    have HR := hidden hr
    have hN0 : N = 0 := by omega
    subst hN0
    clear h hr hcell hN h0
    go_enter Tryz.func104, Tryz.ntmps104
    go_wp2_with (first
      | (go_at_call 97; (refine (count_any _ _).mono ?_); rintro e w' ⟨rfl, rfl⟩; rw [show cntE 0 = 8 from rfl])
      | fail)
    go_ret2
    exact parsed_none _ _ _ _ HR.out (Below.refl _ _)
  rw [if_neg h0] at hr
  by_cases h16 : (N : Int) > 16
  · rw [if_pos h16] at hr
    have hc10 : cntE N = 10 := by unfold cntE; rw [if_neg (by omega), if_pos (by omega)]
    have HR := hidden hr
    clear h hr hcell hN h0
    go_enter Tryz.func104, Tryz.ntmps104
    go_wp2_with (first
      | (go_at_call 97; (with_reducible refine (count_any _ _).mono ?_); rintro e w' ⟨rfl, rfl⟩; rw [hc10])
      | fail)
    go_ret2
    exact parsed_none _ _ _ _ HR.out (Below.refl _ _)
  rw [if_neg h16] at hr
  have hc0 : cntE N = 0 := by unfold cntE; rw [if_neg (by omega), if_neg (by omega)]
  have hpart := h.part 4 n (by omega) (Nat.le_refl _)
  rw [List.take_of_length_le (by rw [h.len]; omega)] at hpart
  obtain ⟨o, ho⟩ : ∃ o, manyS N (xs.drop 4) = o := ⟨_, rfl⟩
  rw [Int.toNat_natCast, ho] at hr
  have HR := hidden hr
  have HRD := hidden (fun q m d (h : Byt w q m d (xs.drop 4)) => sread_any q m d _ w h N (by omega) o ho)
  have HP := hidden hpart
  clear h hr hcell hN ho hpart
  have hcc : (c = 4 ∧ n = 4) ∨ c ≠ 4 := by omega
  rcases hcc with ⟨rfl, rfl⟩ | hcc
  all_goals
    first | (rw [if_pos rfl, Nat.sub_self] at HP) | (rw [if_neg hcc, Option.map_some, WideShapes.add_plain] at HP)
    cases o with
    | none =>
      go_enter Tryz.func104, Tryz.ntmps104
      go_wp2_with (first
        | (go_at_call 97; (with_reducible refine (count_any _ _).mono ?_); rintro e w' ⟨rfl, rfl⟩; rw [hc0])
        | (go_at_call 114; (with_reducible refine (HRD.out _ _ _ HP.out).mono ?_); rintro e w1 ⟨hb, v, rfl⟩; have HB1 := hidden hb; clear hb)
        | fail)
      go_ret2
      exact parsed_none _ _ _ _ HR.out HB1.out
    | some l =>
      obtain ⟨z, hz⟩ : ∃ z, errL l = z := ⟨_, rfl⟩
      have hr := HR.out
      simp only at hr
      rw [hz] at hr
      by_cases hz0 : z = 0
      · subst hz0
        rw [if_neg (by simp)] at hr
        have HR2 := hidden hr
        clear hr HR
        go_enter Tryz.func104, Tryz.ntmps104
        go_wp2_with (first
          | (go_at_call 97; (with_reducible refine (count_any _ _).mono ?_); rintro e w' ⟨rfl, rfl⟩; rw [hc0])
          | (go_at_call 114; (with_reducible refine (HRD.out _ _ _ HP.out).mono ?_); rintro e w1 ⟨hb, v, rfl, hrow⟩; have HB1 := hidden hb; have HRW := hidden hrow; obtain ⟨q, d, rfl, hrd⟩ := hrow.rd (D := DSlr) rfl (fun _ h => h); have HC := hidden (each_any q _ d l w1 hrd 0 hz); clear hb hrow hrd)
          | (go_at_call 98; (with_reducible refine (HC.out).mono ?_); rintro e w2 ⟨rfl, hb2⟩; have HRW2 := hidden (HRW.out.below hb2); have HB2 := hidden (HB1.out.trans (hb2.mono HB1.out.size)); clear hb2)
          | fail)
        go_ret2
        rw [← HR2.out]
        exact ⟨_, rfl, HRW2.out, HB2.out⟩
      · rw [if_pos hz0] at hr
        have hz' : (z != 0) = true := by simpa using hz0
        have HR2 := hidden hr
        clear hr HR hz0
        go_enter Tryz.func104, Tryz.ntmps104
        go_wp2_with (first
          | (go_at_call 97; (with_reducible refine (count_any _ _).mono ?_); rintro e w' ⟨rfl, rfl⟩; rw [hc0])
          | (go_at_call 114; (with_reducible refine (HRD.out _ _ _ HP.out).mono ?_); rintro e w1 ⟨hb, v, rfl, hrow⟩; have HB1 := hidden hb; obtain ⟨q, d, rfl, hrd⟩ := hrow.rd (D := DSlr) rfl (fun _ h => h); have HC := hidden (each_any q _ d l w1 hrd z hz); clear hb hrow hrd)
          | (go_at_call 98; (with_reducible refine (HC.out).mono ?_); rintro e w2 ⟨rfl, hb2⟩; have HB2 := hidden (HB1.out.trans (hb2.mono HB1.out.size)); clear hb2)
          | fail)
        go_ret2
        exact parsed_none _ _ _ _ HR2.out HB2.out
end Go.Proofs.YtnbkffehhahckaaGreat

namespace Go.Proofs.YtnbkffehhahckaaGreat
open Go.RowKit
set_option linter.unusedVariables false
set_option maxHeartbeats 800000 in
set_option maxRecDepth 100000 in
theorem selectors_read (p : Option Addr) (n c : Nat) (xs : List Int) (w : World) (h : Byt w p n c xs) (r : List Sl × Int) (hr : parseS xs = r) :
    Calls Tryz.prog 81 #[.slice p n c] w (ReadPv w r.2 fun w' x => RowG KSl NSl w' w.heap.size (.slice x.se.p x.se.n x.se.c) r.1 ∧ r.1.length = x.se.n) := by
  have HB := hidden ((Below.refl w.heap.size w).alloc (Nat.le_refl _) (.cells #[.int .i64 0, .slice none 0 0, .int .i64 0, .slice none 0 0, .int .i64 0, .slice none 0 0, .int .i64 0, .slice none 0 0, .int .i64 0, .slice none 0 0, .int .i64 0, .slice none 0 0, .int .i64 0, .slice none 0 0, .slice none 0 0, .slice none 0 0] 56))
  have HZ : Hid (PvIn (w.alloc (.cells #[.int .i64 0, .slice none 0 0, .int .i64 0, .slice none 0 0, .int .i64 0, .slice none 0 0, .int .i64 0, .slice none 0 0, .int .i64 0, .slice none 0 0, .int .i64 0, .slice none 0 0, .int .i64 0, .slice none 0 0, .slice none 0 0, .slice none 0 0] 56)) w.heap.size zeroP) := hidden (PvIn.new w zeroP 56)
  have HP := hidden (sparse_any p n c xs _ (h.alloc (.cells #[.int .i64 0, .slice none 0 0, .int .i64 0, .slice none 0 0, .int .i64 0, .slice none 0 0, .int .i64 0, .slice none 0 0, .int .i64 0, .slice none 0 0, .int .i64 0, .slice none 0 0, .int .i64 0, .slice none 0 0, .slice none 0 0, .slice none 0 0] 56)) r hr)
  clear h
  go_enter Tryz.func81, Tryz.ntmps81
  go_wp2_with (first
    | (go_at_call 104; (with_reducible refine (HP.out).mono ?_); rintro e w2 ⟨v2, rfl, hrow, hbc⟩; obtain ⟨q2, d2, rfl⟩ := hrow.form rfl; have HR2 := hidden hrow; have HB2 := hidden (HB.out.trans (hbc.mono HB.out.size)); have HZ2 := hidden (HZ.out.below hbc); obtain ⟨z0, z1, z2, z3, z4, z5, z6, z7, z8, z9, z10, z11, z12, z13, z14, z15, zf⟩ := HZ2.out; clear hrow hbc)
    | fail)
  have hlo := setPv_grown w2 w.heap.size ⟨0, nilV, 0, nilV, 0, nilV, 0, nilV, 0, nilV, 0, nilV, 0, nilV, ⟨q2, r.1.length, d2⟩, nilV⟩
  have hz := setPv_in HZ2.out ⟨0, nilV, 0, nilV, 0, nilV, 0, nilV, 0, nilV, 0, nilV, 0, nilV, ⟨q2, r.1.length, d2⟩, nilV⟩
  have hfl := (HR2.out.low hlo (by simp)).mono (show w.heap.size ≤ _ from HB.out.size)
  have HBS := hidden (HB2.out.grown hlo HB2.out.size (fun j hj => by cases hj; exact Nat.le_refl _))
  simp only [setPv, nilV] at hz hfl HBS
  have HZZ := hidden hz
  have HFF := hidden hfl
  clear hz hfl hlo
  refine ret_pv (g := w.heap.size) rfl rfl rfl rfl HZZ.out ?_
  exact ⟨_, rfl, HBS.out, fun _ => ⟨HFF.out, rfl⟩⟩
end Go.Proofs.YtnbkffehhahckaaGreat
