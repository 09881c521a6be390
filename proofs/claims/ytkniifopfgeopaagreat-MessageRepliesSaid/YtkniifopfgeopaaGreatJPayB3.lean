/-
  Package payload's build, kind by kind.
-/
import Derived.Test.YtkniifopfgeopaaGreatJZ17
import Derived.Test.YtkniifopfgeopaaGreatJZ18
import Derived.Test.YtkniifopfgeopaaGreatJZ5
import Derived.Test.YtkniifopfgeopaaGreatJZ13
import Derived.Test.YtkniifopfgeopaaGreatJZ14
import Derived.Test.YtkniifopfgeopaaGreatJZ4
namespace Go.Proofs.YtkniifopfgeopaaGreat
open Go.RowKit
set_option linter.unusedVariables false
set_option linter.unusedSimpArgs false

theorem buildS_rng (l : List Sl) : ∀ z ∈ (buildS l).1, 0 ≤ z ∧ z ≤ 255 := by
  unfold buildS
  repeat' split
  all_goals first
    | (intro z hz; cases hz; done)
    | exact rng_append (by intro z hz; simp at hz; omega) (encL_rng _)
theorem own_be {w w' : World} {v : Value} {L : List Int} {E : Int} (h : Own w' w.heap.size 5 v L) (hr : ∀ z ∈ L, 0 ≤ z ∧ z ≤ 255) (hb : Below w.heap.size w w') : GotBE w L E (.returned (.tuple #[v, .int .i64 E])) w' := by
  obtain ⟨q, d, rfl, hf⟩ := h.frs rfl hr
  exact ⟨q, d, rfl, hf, hb⟩
/-- The bytes of an identity, of an authentication. -/
def headL (k : Int) (d : List Int) : List Int := [k % 256, 0, 0, 0] ++ d

set_option maxHeartbeats 3200000 in
set_option maxRecDepth 100000 in
theorem pb_33 (x : Pv) (C : Pc) (w : World) (h : R33 w x C) :
    Calls Tryz.prog 44 #[.agg #[.int .i64 33, .slice x.pr.p x.pr.n x.pr.c, .int .i64 x.eg, .slice x.ed.p x.ed.n x.ed.c, .int .i64 x.ik, .slice x.id.p x.id.n x.id.c, .int .i64 x.am, .slice x.ad.p x.ad.n x.ad.c, .int .i64 x.np, .slice x.ns.p x.ns.n x.ns.c, .int .i64 x.nt, .slice x.nd.p x.nd.n x.nd.c, .int .i64 x.dp, .slice x.ds.p x.ds.n x.ds.c, .slice x.se.p x.se.n x.se.c, .slice x.da.p x.da.n x.da.c]] w (GotBE w ((buildP (C.pr.map PrP.pr)).1) ((buildP (C.pr.map PrP.pr)).2)) := by
  have HB := hidden ((Below.refl w.heap.size w).alloc (Nat.le_refl _) (.cells #[.int .i64 33, .slice x.pr.p x.pr.n x.pr.c, .int .i64 x.eg, .slice x.ed.p x.ed.n x.ed.c, .int .i64 x.ik, .slice x.id.p x.id.n x.id.c, .int .i64 x.am, .slice x.ad.p x.ad.n x.ad.c, .int .i64 x.np, .slice x.ns.p x.ns.n x.ns.c, .int .i64 x.nt, .slice x.nd.p x.nd.n x.nd.c, .int .i64 x.dp, .slice x.ds.p x.ds.n x.ds.c, .slice x.se.p x.se.n x.se.c, .slice x.da.p x.da.n x.da.c] 59))
  have hr := buildP_rng _ h.pr.rng (L := (buildP (C.pr.map PrP.pr)).1) (E := (buildP (C.pr.map PrP.pr)).2) rfl
  have HC := hidden (pbuild_any _ _ _ C.pr (w.alloc (.cells #[.int .i64 33, .slice x.pr.p x.pr.n x.pr.c, .int .i64 x.eg, .slice x.ed.p x.ed.n x.ed.c, .int .i64 x.ik, .slice x.id.p x.id.n x.id.c, .int .i64 x.am, .slice x.ad.p x.ad.n x.ad.c, .int .i64 x.np, .slice x.ns.p x.ns.n x.ns.c, .int .i64 x.nt, .slice x.nd.p x.nd.n x.nd.c, .int .i64 x.dp, .slice x.ds.p x.ds.n x.ds.c, .slice x.se.p x.se.n x.se.c, .slice x.da.p x.da.n x.da.c] 59)) (h.pr.below HB.out) (buildP (C.pr.map PrP.pr)).1 (buildP (C.pr.map PrP.pr)).2 rfl)
  generalize buildP (C.pr.map PrP.pr) = R at *
  obtain ⟨L, E⟩ := R
  have HR := hidden hr
  clear h hr
  simp only at HC HR ⊢
  go_enter Tryz.func44, Tryz.ntmps44
  go_wp2_with (first | (go_at_call 57; (with_reducible refine (HC.out).mono ?_); rintro e w1 ⟨v, rfl, ho, hb⟩; have HO := hidden ho; have HB2 := hidden hb; clear ho hb) | fail)
  go_ret2
  exact own_be (HO.out.mono HB.out.size) HR.out (HB.out.trans (HB2.out.mono HB.out.size))
set_option maxHeartbeats 3200000 in
set_option maxRecDepth 100000 in
theorem pb_44 (x : Pv) (C : Pc) (w : World) (h : R44 w x C) :
    Calls Tryz.prog 44 #[.agg #[.int .i64 44, .slice x.pr.p x.pr.n x.pr.c, .int .i64 x.eg, .slice x.ed.p x.ed.n x.ed.c, .int .i64 x.ik, .slice x.id.p x.id.n x.id.c, .int .i64 x.am, .slice x.ad.p x.ad.n x.ad.c, .int .i64 x.np, .slice x.ns.p x.ns.n x.ns.c, .int .i64 x.nt, .slice x.nd.p x.nd.n x.nd.c, .int .i64 x.dp, .slice x.ds.p x.ds.n x.ds.c, .slice x.se.p x.se.n x.se.c, .slice x.da.p x.da.n x.da.c]] w (GotBE w ((buildS C.se).1) ((buildS C.se).2)) := by
  have HB := hidden ((Below.refl w.heap.size w).alloc (Nat.le_refl _) (.cells #[.int .i64 44, .slice x.pr.p x.pr.n x.pr.c, .int .i64 x.eg, .slice x.ed.p x.ed.n x.ed.c, .int .i64 x.ik, .slice x.id.p x.id.n x.id.c, .int .i64 x.am, .slice x.ad.p x.ad.n x.ad.c, .int .i64 x.np, .slice x.ns.p x.ns.n x.ns.c, .int .i64 x.nt, .slice x.nd.p x.nd.n x.nd.c, .int .i64 x.dp, .slice x.ds.p x.ds.n x.ds.c, .slice x.se.p x.se.n x.se.c, .slice x.da.p x.da.n x.da.c] 59))
  have hr := buildS_rng C.se
  have HC := hidden (sbuild_any _ _ _ C.se (w.alloc (.cells #[.int .i64 44, .slice x.pr.p x.pr.n x.pr.c, .int .i64 x.eg, .slice x.ed.p x.ed.n x.ed.c, .int .i64 x.ik, .slice x.id.p x.id.n x.id.c, .int .i64 x.am, .slice x.ad.p x.ad.n x.ad.c, .int .i64 x.np, .slice x.ns.p x.ns.n x.ns.c, .int .i64 x.nt, .slice x.nd.p x.nd.n x.nd.c, .int .i64 x.dp, .slice x.ds.p x.ds.n x.ds.c, .slice x.se.p x.se.n x.se.c, .slice x.da.p x.da.n x.da.c] 59)) (h.se.below HB.out) (buildS C.se).1 (buildS C.se).2 rfl)
  generalize buildS C.se = R at *
  obtain ⟨L, E⟩ := R
  have HR := hidden hr
  clear h hr
  simp only at HC HR ⊢
  go_enter Tryz.func44, Tryz.ntmps44
  go_wp2_with (first | (go_at_call 65; (with_reducible refine (HC.out).mono ?_); rintro e w1 ⟨v, rfl, ho, hb⟩; have HO := hidden ho; have HB2 := hidden hb; clear ho hb) | fail)
  go_ret2
  exact own_be (HO.out.mono HB.out.size) HR.out (HB.out.trans (HB2.out.mono HB.out.size))
set_option maxHeartbeats 3200000 in
set_option maxRecDepth 100000 in
theorem pb_45 (x : Pv) (C : Pc) (w : World) (h : R44 w x C) :
    Calls Tryz.prog 44 #[.agg #[.int .i64 45, .slice x.pr.p x.pr.n x.pr.c, .int .i64 x.eg, .slice x.ed.p x.ed.n x.ed.c, .int .i64 x.ik, .slice x.id.p x.id.n x.id.c, .int .i64 x.am, .slice x.ad.p x.ad.n x.ad.c, .int .i64 x.np, .slice x.ns.p x.ns.n x.ns.c, .int .i64 x.nt, .slice x.nd.p x.nd.n x.nd.c, .int .i64 x.dp, .slice x.ds.p x.ds.n x.ds.c, .slice x.se.p x.se.n x.se.c, .slice x.da.p x.da.n x.da.c]] w (GotBE w ((buildS C.se).1) ((buildS C.se).2)) := by
  have HB := hidden ((Below.refl w.heap.size w).alloc (Nat.le_refl _) (.cells #[.int .i64 45, .slice x.pr.p x.pr.n x.pr.c, .int .i64 x.eg, .slice x.ed.p x.ed.n x.ed.c, .int .i64 x.ik, .slice x.id.p x.id.n x.id.c, .int .i64 x.am, .slice x.ad.p x.ad.n x.ad.c, .int .i64 x.np, .slice x.ns.p x.ns.n x.ns.c, .int .i64 x.nt, .slice x.nd.p x.nd.n x.nd.c, .int .i64 x.dp, .slice x.ds.p x.ds.n x.ds.c, .slice x.se.p x.se.n x.se.c, .slice x.da.p x.da.n x.da.c] 59))
  have hr := buildS_rng C.se
  have HC := hidden (sbuild_any _ _ _ C.se (w.alloc (.cells #[.int .i64 45, .slice x.pr.p x.pr.n x.pr.c, .int .i64 x.eg, .slice x.ed.p x.ed.n x.ed.c, .int .i64 x.ik, .slice x.id.p x.id.n x.id.c, .int .i64 x.am, .slice x.ad.p x.ad.n x.ad.c, .int .i64 x.np, .slice x.ns.p x.ns.n x.ns.c, .int .i64 x.nt, .slice x.nd.p x.nd.n x.nd.c, .int .i64 x.dp, .slice x.ds.p x.ds.n x.ds.c, .slice x.se.p x.se.n x.se.c, .slice x.da.p x.da.n x.da.c] 59)) (h.se.below HB.out) (buildS C.se).1 (buildS C.se).2 rfl)
  generalize buildS C.se = R at *
  obtain ⟨L, E⟩ := R
  have HR := hidden hr
  clear h hr
  simp only at HC HR ⊢
  go_enter Tryz.func44, Tryz.ntmps44
  go_wp2_with (first | (go_at_call 65; (with_reducible refine (HC.out).mono ?_); rintro e w1 ⟨v, rfl, ho, hb⟩; have HO := hidden ho; have HB2 := hidden hb; clear ho hb) | fail)
  go_ret2
  exact own_be (HO.out.mono HB.out.size) HR.out (HB.out.trans (HB2.out.mono HB.out.size))
set_option maxHeartbeats 3200000 in
set_option maxRecDepth 100000 in
theorem pb_34 (x : Pv) (C : Pc) (w : World) (h : R34 w x C) (hn : x.ed.n ≤ 1000000) :
    Calls Tryz.prog 44 #[.agg #[.int .i64 34, .slice x.pr.p x.pr.n x.pr.c, .int .i64 x.eg, .slice x.ed.p x.ed.n x.ed.c, .int .i64 x.ik, .slice x.id.p x.id.n x.id.c, .int .i64 x.am, .slice x.ad.p x.ad.n x.ad.c, .int .i64 x.np, .slice x.ns.p x.ns.n x.ns.c, .int .i64 x.nt, .slice x.nd.p x.nd.n x.nd.c, .int .i64 x.dp, .slice x.ds.p x.ds.n x.ds.c, .slice x.se.p x.se.n x.se.c, .slice x.da.p x.da.n x.da.c]] w (GotBE w (exchL x.eg C.ed) (exchE x.eg x.ed.n)) := by
  have HB := hidden ((Below.refl w.heap.size w).alloc (Nat.le_refl _) (.cells #[.int .i64 34, .slice x.pr.p x.pr.n x.pr.c, .int .i64 x.eg, .slice x.ed.p x.ed.n x.ed.c, .int .i64 x.ik, .slice x.id.p x.id.n x.id.c, .int .i64 x.am, .slice x.ad.p x.ad.n x.ad.c, .int .i64 x.np, .slice x.ns.p x.ns.n x.ns.c, .int .i64 x.nt, .slice x.nd.p x.nd.n x.nd.c, .int .i64 x.dp, .slice x.ds.p x.ds.n x.ds.c, .slice x.se.p x.se.n x.se.c, .slice x.da.p x.da.n x.da.c] 59))
  have HC := hidden (buildExchange_any x.eg _ _ _ C.ed (w.alloc (.cells #[.int .i64 34, .slice x.pr.p x.pr.n x.pr.c, .int .i64 x.eg, .slice x.ed.p x.ed.n x.ed.c, .int .i64 x.ik, .slice x.id.p x.id.n x.id.c, .int .i64 x.am, .slice x.ad.p x.ad.n x.ad.c, .int .i64 x.np, .slice x.ns.p x.ns.n x.ns.c, .int .i64 x.nt, .slice x.nd.p x.nd.n x.nd.c, .int .i64 x.dp, .slice x.ds.p x.ds.n x.ds.c, .slice x.se.p x.se.n x.se.c, .slice x.da.p x.da.n x.da.c] 59)) (h.ed.below HB.out) (by omega) _ rfl)
  obtain ⟨LL, hLL⟩ : ∃ LL, exchL x.eg C.ed = LL := ⟨_, rfl⟩
  obtain ⟨EE, hEE⟩ : ∃ EE, exchE x.eg x.ed.n = EE := ⟨_, rfl⟩
  rw [hLL, hEE] at HC ⊢
  clear h hLL hEE
  go_enter Tryz.func44, Tryz.ntmps44
  go_wp2_with (first | (go_at_call 58; (with_reducible refine (HC.out).mono ?_); rintro e w1 ⟨q, d, rfl, hf, hb⟩; have HF := hidden hf; have HB2 := hidden hb; clear hf hb) | fail)
  go_ret2
  exact ⟨q, d, rfl, HF.out.mono HB.out.size, HB.out.trans (HB2.out.mono HB.out.size)⟩
set_option maxHeartbeats 3200000 in
set_option maxRecDepth 100000 in
theorem pb_41 (x : Pv) (C : Pc) (w : World) (h : R41 w x C) (hn : x.ns.n ≤ 1000000) (hn2 : x.nd.n ≤ 1000000) :
    Calls Tryz.prog 44 #[.agg #[.int .i64 41, .slice x.pr.p x.pr.n x.pr.c, .int .i64 x.eg, .slice x.ed.p x.ed.n x.ed.c, .int .i64 x.ik, .slice x.id.p x.id.n x.id.c, .int .i64 x.am, .slice x.ad.p x.ad.n x.ad.c, .int .i64 x.np, .slice x.ns.p x.ns.n x.ns.c, .int .i64 x.nt, .slice x.nd.p x.nd.n x.nd.c, .int .i64 x.dp, .slice x.ds.p x.ds.n x.ds.c, .slice x.se.p x.se.n x.se.c, .slice x.da.p x.da.n x.da.c]] w (GotBE w (noteL x.np x.nt C.ns C.nd) (notifyE x.np x.nt x.ns.n)) := by
  have HB := hidden ((Below.refl w.heap.size w).alloc (Nat.le_refl _) (.cells #[.int .i64 41, .slice x.pr.p x.pr.n x.pr.c, .int .i64 x.eg, .slice x.ed.p x.ed.n x.ed.c, .int .i64 x.ik, .slice x.id.p x.id.n x.id.c, .int .i64 x.am, .slice x.ad.p x.ad.n x.ad.c, .int .i64 x.np, .slice x.ns.p x.ns.n x.ns.c, .int .i64 x.nt, .slice x.nd.p x.nd.n x.nd.c, .int .i64 x.dp, .slice x.ds.p x.ds.n x.ds.c, .slice x.se.p x.se.n x.se.c, .slice x.da.p x.da.n x.da.c] 59))
  have HC := hidden (buildNotify_any x.np x.nt _ _ _ _ _ _ C.ns C.nd (w.alloc (.cells #[.int .i64 41, .slice x.pr.p x.pr.n x.pr.c, .int .i64 x.eg, .slice x.ed.p x.ed.n x.ed.c, .int .i64 x.ik, .slice x.id.p x.id.n x.id.c, .int .i64 x.am, .slice x.ad.p x.ad.n x.ad.c, .int .i64 x.np, .slice x.ns.p x.ns.n x.ns.c, .int .i64 x.nt, .slice x.nd.p x.nd.n x.nd.c, .int .i64 x.dp, .slice x.ds.p x.ds.n x.ds.c, .slice x.se.p x.se.n x.se.c, .slice x.da.p x.da.n x.da.c] 59)) (h.ns.below HB.out) (h.nd.below HB.out) (by omega) _ rfl)
  obtain ⟨LL, hLL⟩ : ∃ LL, noteL x.np x.nt C.ns C.nd = LL := ⟨_, rfl⟩
  obtain ⟨EE, hEE⟩ : ∃ EE, notifyE x.np x.nt x.ns.n = EE := ⟨_, rfl⟩
  rw [hLL, hEE] at HC ⊢
  clear h hLL hEE
  go_enter Tryz.func44, Tryz.ntmps44
  go_wp2_with (first | (go_at_call 63; (with_reducible refine (HC.out).mono ?_); rintro e w1 ⟨q, d, rfl, hf, hb⟩; have HF := hidden hf; have HB2 := hidden hb; clear hf hb) | fail)
  go_ret2
  exact ⟨q, d, rfl, HF.out.mono HB.out.size, HB.out.trans (HB2.out.mono HB.out.size)⟩
set_option maxHeartbeats 3200000 in
set_option maxRecDepth 100000 in
theorem pb_42 (x : Pv) (C : Pc) (w : World) (h : R42 w x C) (hn : x.ds.n ≤ 1000000) :
    Calls Tryz.prog 44 #[.agg #[.int .i64 42, .slice x.pr.p x.pr.n x.pr.c, .int .i64 x.eg, .slice x.ed.p x.ed.n x.ed.c, .int .i64 x.ik, .slice x.id.p x.id.n x.id.c, .int .i64 x.am, .slice x.ad.p x.ad.n x.ad.c, .int .i64 x.np, .slice x.ns.p x.ns.n x.ns.c, .int .i64 x.nt, .slice x.nd.p x.nd.n x.nd.c, .int .i64 x.dp, .slice x.ds.p x.ds.n x.ds.c, .slice x.se.p x.se.n x.se.c, .slice x.da.p x.da.n x.da.c]] w (GotBE w (delBL x.dp (C.ds.map Sb.xs)) (delBE x.dp (C.ds.map Sb.xs))) := by
  have HB := hidden ((Below.refl w.heap.size w).alloc (Nat.le_refl _) (.cells #[.int .i64 42, .slice x.pr.p x.pr.n x.pr.c, .int .i64 x.eg, .slice x.ed.p x.ed.n x.ed.c, .int .i64 x.ik, .slice x.id.p x.id.n x.id.c, .int .i64 x.am, .slice x.ad.p x.ad.n x.ad.c, .int .i64 x.np, .slice x.ns.p x.ns.n x.ns.c, .int .i64 x.nt, .slice x.nd.p x.nd.n x.nd.c, .int .i64 x.dp, .slice x.ds.p x.ds.n x.ds.c, .slice x.se.p x.se.n x.se.c, .slice x.da.p x.da.n x.da.c] 59))
  have HC := hidden (buildDelete_any x.dp _ _ _ C.ds (w.alloc (.cells #[.int .i64 42, .slice x.pr.p x.pr.n x.pr.c, .int .i64 x.eg, .slice x.ed.p x.ed.n x.ed.c, .int .i64 x.ik, .slice x.id.p x.id.n x.id.c, .int .i64 x.am, .slice x.ad.p x.ad.n x.ad.c, .int .i64 x.np, .slice x.ns.p x.ns.n x.ns.c, .int .i64 x.nt, .slice x.nd.p x.nd.n x.nd.c, .int .i64 x.dp, .slice x.ds.p x.ds.n x.ds.c, .slice x.se.p x.se.n x.se.c, .slice x.da.p x.da.n x.da.c] 59)) (h.ds.below HB.out) hn)
  obtain ⟨LL, hLL⟩ : ∃ LL, delBL x.dp (C.ds.map Sb.xs) = LL := ⟨_, rfl⟩
  obtain ⟨EE, hEE⟩ : ∃ EE, delBE x.dp (C.ds.map Sb.xs) = EE := ⟨_, rfl⟩
  rw [hLL, hEE] at HC ⊢
  clear h hLL hEE
  go_enter Tryz.func44, Tryz.ntmps44
  go_wp2_with (first | (go_at_call 64; (with_reducible refine (HC.out).mono ?_); rintro e w1 ⟨q, d, rfl, hf, hb⟩; have HF := hidden hf; have HB2 := hidden hb; clear hf hb) | fail)
  go_ret2
  exact ⟨q, d, rfl, HF.out.mono HB.out.size, HB.out.trans (HB2.out.mono HB.out.size)⟩
set_option maxHeartbeats 3200000 in
set_option maxRecDepth 100000 in
theorem pb_35 (x : Pv) (C : Pc) (w : World) (h : R35 w x C) (hn : x.id.n ≤ 1000000) :
    Calls Tryz.prog 44 #[.agg #[.int .i64 35, .slice x.pr.p x.pr.n x.pr.c, .int .i64 x.eg, .slice x.ed.p x.ed.n x.ed.c, .int .i64 x.ik, .slice x.id.p x.id.n x.id.c, .int .i64 x.am, .slice x.ad.p x.ad.n x.ad.c, .int .i64 x.np, .slice x.ns.p x.ns.n x.ns.c, .int .i64 x.nt, .slice x.nd.p x.nd.n x.nd.c, .int .i64 x.dp, .slice x.ds.p x.ds.n x.ds.c, .slice x.se.p x.se.n x.se.c, .slice x.da.p x.da.n x.da.c]] w (GotBE w (headL x.ik C.id) (idE x.ik x.id.n)) := by
  have HB := hidden ((Below.refl w.heap.size w).alloc (Nat.le_refl _) (.cells #[.int .i64 35, .slice x.pr.p x.pr.n x.pr.c, .int .i64 x.eg, .slice x.ed.p x.ed.n x.ed.c, .int .i64 x.ik, .slice x.id.p x.id.n x.id.c, .int .i64 x.am, .slice x.ad.p x.ad.n x.ad.c, .int .i64 x.np, .slice x.ns.p x.ns.n x.ns.c, .int .i64 x.nt, .slice x.nd.p x.nd.n x.nd.c, .int .i64 x.dp, .slice x.ds.p x.ds.n x.ds.c, .slice x.se.p x.se.n x.se.c, .slice x.da.p x.da.n x.da.c] 59))
  have hx1 := mod256_rng x.ik
  have hwr : IntKind.u8.wrap x.ik = x.ik % 256 := by rw [IntKind.wrap_u8]
  have HL : Hid ([x.ik % 256, 0, 0, 0] ++ C.id = headL x.ik C.id) := rfl
  obtain ⟨E, hE⟩ : ∃ E, idE x.ik x.id.n = E := ⟨_, rfl⟩
  rw [hE]
  have HCE := hidden (fun W => checkIdentity_any x.ik x.id.p x.id.n x.id.c W (by omega) E hE)
  have k0 : (w.alloc (.cells #[.int .i64 35, .slice x.pr.p x.pr.n x.pr.c, .int .i64 x.eg, .slice x.ed.p x.ed.n x.ed.c, .int .i64 x.ik, .slice x.id.p x.id.n x.id.c, .int .i64 x.am, .slice x.ad.p x.ad.n x.ad.c, .int .i64 x.np, .slice x.ns.p x.ns.n x.ns.c, .int .i64 x.nt, .slice x.nd.p x.nd.n x.nd.c, .int .i64 x.dp, .slice x.ds.p x.ds.n x.ds.c, .slice x.se.p x.se.n x.se.c, .slice x.da.p x.da.n x.da.c] 59)).cell? ⟨w.heap.size, 4, none⟩ = some (.int .i64 x.ik) := by go_simp
  have k1 : (w.alloc (.cells #[.int .i64 35, .slice x.pr.p x.pr.n x.pr.c, .int .i64 x.eg, .slice x.ed.p x.ed.n x.ed.c, .int .i64 x.ik, .slice x.id.p x.id.n x.id.c, .int .i64 x.am, .slice x.ad.p x.ad.n x.ad.c, .int .i64 x.np, .slice x.ns.p x.ns.n x.ns.c, .int .i64 x.nt, .slice x.nd.p x.nd.n x.nd.c, .int .i64 x.dp, .slice x.ds.p x.ds.n x.ds.c, .slice x.se.p x.se.n x.se.c, .slice x.da.p x.da.n x.da.c] 59)).cell? ⟨w.heap.size, 5, none⟩ = some (.slice x.id.p x.id.n x.id.c) := by go_simp
  have HY := hidden (h.id.below HB.out)
  generalize headL x.ik C.id = L at *
  clear h hE
  go_enter Tryz.func44, Tryz.ntmps44
  go_upto_region 8 with fail
  generalize hw2 : (w.alloc (.cells #[.int .i64 35, .slice x.pr.p x.pr.n x.pr.c, .int .i64 x.eg, .slice x.ed.p x.ed.n x.ed.c, .int .i64 x.ik, .slice x.id.p x.id.n x.id.c, .int .i64 x.am, .slice x.ad.p x.ad.n x.ad.c, .int .i64 x.np, .slice x.ns.p x.ns.n x.ns.c, .int .i64 x.nt, .slice x.nd.p x.nd.n x.nd.c, .int .i64 x.dp, .slice x.ds.p x.ds.n x.ds.c, .slice x.se.p x.se.n x.se.c, .slice x.da.p x.da.n x.da.c] 59)) = w2 at *
  have hb2 := HB.out
  have HKK := hidden (fun W (hW : Below w2.heap.size w2 W) => (⟨cell_below hW _ _ k0, cell_below hW _ _ k1⟩ : W.cell? ⟨w.heap.size, 4, none⟩ = some (.int .i64 x.ik) ∧ W.cell? ⟨w.heap.size, 5, none⟩ = some (.slice x.id.p x.id.n x.id.c)))
  have HBF := hidden (fun W (hW : Below w2.heap.size w2 W) => before1 (x.ik % 256) 0 0 0 hx1 (by omega) (by omega) (by omega) _ _ _ C.id W (HY.out.below hW) (by omega) L HL.out)
  have HBA := hidden (fun W hW => before1_at (x.ik % 256) 0 0 0 hx1 (by omega) (by omega) (by omega) _ _ _ C.id w2 W HY.out (by omega) L HL.out hW)
  have HR0 := hidden (show Below w2.heap.size w2 w2.drew from drew_below ⟨1, rfl⟩)
  have HRA := hidden (show Below w2.heap.size w2 (w2.alloc (.cells #[.slice x.id.p x.id.n x.id.c] 22)).drew from ((Below.refl _ w2).alloc (Nat.le_refl _) _).trans (drew_below ⟨1, rfl⟩))
  have HFIN := hidden (fun (q : Option Addr) (d : Nat) W (hf : Frs W w2.heap.size q L.length d L) (hW : Below w2.heap.size w2 W) => show GotBE w L E (.returned (.tuple #[.slice q L.length d, .int .i64 E])) W from ⟨q, d, rfl, hf.mono hb2.size, hb2.trans (hW.mono hb2.size)⟩)
  clear hw2 hb2 HB
  generalize w.heap.size = N at *
  go_region_held3 (fun W => W.cell? ⟨N, 4, none⟩ = some (.int .i64 x.ik) ∧ W.cell? ⟨N, 5, none⟩ = some (.slice x.id.p x.id.n x.id.c))
    (first | exact HKK.out _ HB5.out | exact HKK.out _ HB6.out | exact HKK.out _ HR0.out | exact HKK.out _ HRA.out | go_keep)
    (first
    | (go_at_call 59; (with_reducible refine (HBA.out _ (Below.refl _ _)).mono ?_); rintro e w5 ⟨q5, d5, rfl, hf5, hb5⟩; have HF5 := hidden (hf5.mono HRA.out.size); have HB5 : Hid (Below w2.heap.size w2 w5) := hidden (HRA.out.trans (hb5.mono HRA.out.size)); clear hf5 hb5)
    | (go_at_call 59; (with_reducible refine (HBF.out _ HB6.out).mono ?_); rintro e w5 ⟨q5, d5, rfl, hf5, hb5⟩; have HF5 := hidden (hf5.mono HB6.out.size); have HB5 : Hid (Below w2.heap.size w2 w5) := hidden (HB6.out.trans (hb5.mono HB6.out.size)); clear hf5 hb5)
    | (go_at_call 59; (with_reducible refine (HBA.out _ HX6.out).mono ?_); rintro e w5 ⟨q5, d5, rfl, hf5, hb5⟩; have HF5 := hidden (hf5.mono HB6.out.size); have HB5 : Hid (Below w2.heap.size w2 w5) := hidden (HB6.out.trans (hb5.mono HB6.out.size)); clear hf5 hb5)
    | (go_at_call 60; (with_reducible refine (HCE.out (w2.alloc (.cells #[.slice x.id.p x.id.n x.id.c] 22)).drew).mono ?_); rintro e w6 ⟨rfl, hb6⟩; have HX6 := hidden hb6; have HB6 : Hid (Below w2.heap.size w2 w6) := hidden (HRA.out.trans (hb6.mono HRA.out.size)); clear hb6)
    | (go_at_call 60; (with_reducible refine (HCE.out _).mono ?_); rintro e w6 ⟨rfl, hb6⟩; have HB6 : Hid (Below w2.heap.size w2 w6) := hidden (by first | exact HB5.out.trans (hb6.mono HB5.out.size) | exact HR0.out.trans (hb6.mono HR0.out.size)); have HF6 : Hid (∀ q d, Frs w5 w2.heap.size q L.length d L → Frs w6 w2.heap.size q L.length d L) := hidden (fun q d hf => hf.below hb6); clear hb6)
    | fail)
  all_goals
    go_wp2
    go_ret2
    first
      | exact HFIN.out q5 d5 _ HF5.out HB5.out
      | exact HFIN.out q5 d5 _ (HF6.out _ _ HF5.out) HB6.out
set_option maxHeartbeats 3200000 in
set_option maxRecDepth 100000 in
theorem pb_36 (x : Pv) (C : Pc) (w : World) (h : R35 w x C) (hn : x.id.n ≤ 1000000) :
    Calls Tryz.prog 44 #[.agg #[.int .i64 36, .slice x.pr.p x.pr.n x.pr.c, .int .i64 x.eg, .slice x.ed.p x.ed.n x.ed.c, .int .i64 x.ik, .slice x.id.p x.id.n x.id.c, .int .i64 x.am, .slice x.ad.p x.ad.n x.ad.c, .int .i64 x.np, .slice x.ns.p x.ns.n x.ns.c, .int .i64 x.nt, .slice x.nd.p x.nd.n x.nd.c, .int .i64 x.dp, .slice x.ds.p x.ds.n x.ds.c, .slice x.se.p x.se.n x.se.c, .slice x.da.p x.da.n x.da.c]] w (GotBE w (headL x.ik C.id) (idE x.ik x.id.n)) := by
  have HB := hidden ((Below.refl w.heap.size w).alloc (Nat.le_refl _) (.cells #[.int .i64 36, .slice x.pr.p x.pr.n x.pr.c, .int .i64 x.eg, .slice x.ed.p x.ed.n x.ed.c, .int .i64 x.ik, .slice x.id.p x.id.n x.id.c, .int .i64 x.am, .slice x.ad.p x.ad.n x.ad.c, .int .i64 x.np, .slice x.ns.p x.ns.n x.ns.c, .int .i64 x.nt, .slice x.nd.p x.nd.n x.nd.c, .int .i64 x.dp, .slice x.ds.p x.ds.n x.ds.c, .slice x.se.p x.se.n x.se.c, .slice x.da.p x.da.n x.da.c] 59))
  have hx1 := mod256_rng x.ik
  have hwr : IntKind.u8.wrap x.ik = x.ik % 256 := by rw [IntKind.wrap_u8]
  have HL : Hid ([x.ik % 256, 0, 0, 0] ++ C.id = headL x.ik C.id) := rfl
  obtain ⟨E, hE⟩ : ∃ E, idE x.ik x.id.n = E := ⟨_, rfl⟩
  rw [hE]
  have HCE := hidden (fun W => checkIdentity_any x.ik x.id.p x.id.n x.id.c W (by omega) E hE)
  have k0 : (w.alloc (.cells #[.int .i64 36, .slice x.pr.p x.pr.n x.pr.c, .int .i64 x.eg, .slice x.ed.p x.ed.n x.ed.c, .int .i64 x.ik, .slice x.id.p x.id.n x.id.c, .int .i64 x.am, .slice x.ad.p x.ad.n x.ad.c, .int .i64 x.np, .slice x.ns.p x.ns.n x.ns.c, .int .i64 x.nt, .slice x.nd.p x.nd.n x.nd.c, .int .i64 x.dp, .slice x.ds.p x.ds.n x.ds.c, .slice x.se.p x.se.n x.se.c, .slice x.da.p x.da.n x.da.c] 59)).cell? ⟨w.heap.size, 4, none⟩ = some (.int .i64 x.ik) := by go_simp
  have k1 : (w.alloc (.cells #[.int .i64 36, .slice x.pr.p x.pr.n x.pr.c, .int .i64 x.eg, .slice x.ed.p x.ed.n x.ed.c, .int .i64 x.ik, .slice x.id.p x.id.n x.id.c, .int .i64 x.am, .slice x.ad.p x.ad.n x.ad.c, .int .i64 x.np, .slice x.ns.p x.ns.n x.ns.c, .int .i64 x.nt, .slice x.nd.p x.nd.n x.nd.c, .int .i64 x.dp, .slice x.ds.p x.ds.n x.ds.c, .slice x.se.p x.se.n x.se.c, .slice x.da.p x.da.n x.da.c] 59)).cell? ⟨w.heap.size, 5, none⟩ = some (.slice x.id.p x.id.n x.id.c) := by go_simp
  have HY := hidden (h.id.below HB.out)
  generalize headL x.ik C.id = L at *
  clear h hE
  go_enter Tryz.func44, Tryz.ntmps44
  go_upto_region 8 with fail
  generalize hw2 : (w.alloc (.cells #[.int .i64 36, .slice x.pr.p x.pr.n x.pr.c, .int .i64 x.eg, .slice x.ed.p x.ed.n x.ed.c, .int .i64 x.ik, .slice x.id.p x.id.n x.id.c, .int .i64 x.am, .slice x.ad.p x.ad.n x.ad.c, .int .i64 x.np, .slice x.ns.p x.ns.n x.ns.c, .int .i64 x.nt, .slice x.nd.p x.nd.n x.nd.c, .int .i64 x.dp, .slice x.ds.p x.ds.n x.ds.c, .slice x.se.p x.se.n x.se.c, .slice x.da.p x.da.n x.da.c] 59)) = w2 at *
  have hb2 := HB.out
  have HKK := hidden (fun W (hW : Below w2.heap.size w2 W) => (⟨cell_below hW _ _ k0, cell_below hW _ _ k1⟩ : W.cell? ⟨w.heap.size, 4, none⟩ = some (.int .i64 x.ik) ∧ W.cell? ⟨w.heap.size, 5, none⟩ = some (.slice x.id.p x.id.n x.id.c)))
  have HBF := hidden (fun W (hW : Below w2.heap.size w2 W) => before1 (x.ik % 256) 0 0 0 hx1 (by omega) (by omega) (by omega) _ _ _ C.id W (HY.out.below hW) (by omega) L HL.out)
  have HBA := hidden (fun W hW => before1_at (x.ik % 256) 0 0 0 hx1 (by omega) (by omega) (by omega) _ _ _ C.id w2 W HY.out (by omega) L HL.out hW)
  have HR0 := hidden (show Below w2.heap.size w2 w2.drew from drew_below ⟨1, rfl⟩)
  have HRA := hidden (show Below w2.heap.size w2 (w2.alloc (.cells #[.slice x.id.p x.id.n x.id.c] 22)).drew from ((Below.refl _ w2).alloc (Nat.le_refl _) _).trans (drew_below ⟨1, rfl⟩))
  have HFIN := hidden (fun (q : Option Addr) (d : Nat) W (hf : Frs W w2.heap.size q L.length d L) (hW : Below w2.heap.size w2 W) => show GotBE w L E (.returned (.tuple #[.slice q L.length d, .int .i64 E])) W from ⟨q, d, rfl, hf.mono hb2.size, hb2.trans (hW.mono hb2.size)⟩)
  clear hw2 hb2 HB
  generalize w.heap.size = N at *
  go_region_held3 (fun W => W.cell? ⟨N, 4, none⟩ = some (.int .i64 x.ik) ∧ W.cell? ⟨N, 5, none⟩ = some (.slice x.id.p x.id.n x.id.c))
    (first | exact HKK.out _ HB5.out | exact HKK.out _ HB6.out | exact HKK.out _ HR0.out | exact HKK.out _ HRA.out | go_keep)
    (first
    | (go_at_call 59; (with_reducible refine (HBA.out _ (Below.refl _ _)).mono ?_); rintro e w5 ⟨q5, d5, rfl, hf5, hb5⟩; have HF5 := hidden (hf5.mono HRA.out.size); have HB5 : Hid (Below w2.heap.size w2 w5) := hidden (HRA.out.trans (hb5.mono HRA.out.size)); clear hf5 hb5)
    | (go_at_call 59; (with_reducible refine (HBF.out _ HB6.out).mono ?_); rintro e w5 ⟨q5, d5, rfl, hf5, hb5⟩; have HF5 := hidden (hf5.mono HB6.out.size); have HB5 : Hid (Below w2.heap.size w2 w5) := hidden (HB6.out.trans (hb5.mono HB6.out.size)); clear hf5 hb5)
    | (go_at_call 59; (with_reducible refine (HBA.out _ HX6.out).mono ?_); rintro e w5 ⟨q5, d5, rfl, hf5, hb5⟩; have HF5 := hidden (hf5.mono HB6.out.size); have HB5 : Hid (Below w2.heap.size w2 w5) := hidden (HB6.out.trans (hb5.mono HB6.out.size)); clear hf5 hb5)
    | (go_at_call 60; (with_reducible refine (HCE.out (w2.alloc (.cells #[.slice x.id.p x.id.n x.id.c] 22)).drew).mono ?_); rintro e w6 ⟨rfl, hb6⟩; have HX6 := hidden hb6; have HB6 : Hid (Below w2.heap.size w2 w6) := hidden (HRA.out.trans (hb6.mono HRA.out.size)); clear hb6)
    | (go_at_call 60; (with_reducible refine (HCE.out _).mono ?_); rintro e w6 ⟨rfl, hb6⟩; have HB6 : Hid (Below w2.heap.size w2 w6) := hidden (by first | exact HB5.out.trans (hb6.mono HB5.out.size) | exact HR0.out.trans (hb6.mono HR0.out.size)); have HF6 : Hid (∀ q d, Frs w5 w2.heap.size q L.length d L → Frs w6 w2.heap.size q L.length d L) := hidden (fun q d hf => hf.below hb6); clear hb6)
    | fail)
  all_goals
    go_wp2
    go_ret2
    first
      | exact HFIN.out q5 d5 _ HF5.out HB5.out
      | exact HFIN.out q5 d5 _ (HF6.out _ _ HF5.out) HB6.out
set_option maxHeartbeats 3200000 in
set_option maxRecDepth 100000 in
theorem pb_39 (x : Pv) (C : Pc) (w : World) (h : R39 w x C) (hn : x.ad.n ≤ 1000000) :
    Calls Tryz.prog 44 #[.agg #[.int .i64 39, .slice x.pr.p x.pr.n x.pr.c, .int .i64 x.eg, .slice x.ed.p x.ed.n x.ed.c, .int .i64 x.ik, .slice x.id.p x.id.n x.id.c, .int .i64 x.am, .slice x.ad.p x.ad.n x.ad.c, .int .i64 x.np, .slice x.ns.p x.ns.n x.ns.c, .int .i64 x.nt, .slice x.nd.p x.nd.n x.nd.c, .int .i64 x.dp, .slice x.ds.p x.ds.n x.ds.c, .slice x.se.p x.se.n x.se.c, .slice x.da.p x.da.n x.da.c]] w (GotBE w (headL x.am C.ad) (authE x.am x.ad.n)) := by
  have HB := hidden ((Below.refl w.heap.size w).alloc (Nat.le_refl _) (.cells #[.int .i64 39, .slice x.pr.p x.pr.n x.pr.c, .int .i64 x.eg, .slice x.ed.p x.ed.n x.ed.c, .int .i64 x.ik, .slice x.id.p x.id.n x.id.c, .int .i64 x.am, .slice x.ad.p x.ad.n x.ad.c, .int .i64 x.np, .slice x.ns.p x.ns.n x.ns.c, .int .i64 x.nt, .slice x.nd.p x.nd.n x.nd.c, .int .i64 x.dp, .slice x.ds.p x.ds.n x.ds.c, .slice x.se.p x.se.n x.se.c, .slice x.da.p x.da.n x.da.c] 59))
  have hx1 := mod256_rng x.am
  have hwr : IntKind.u8.wrap x.am = x.am % 256 := by rw [IntKind.wrap_u8]
  have HL : Hid ([x.am % 256, 0, 0, 0] ++ C.ad = headL x.am C.ad) := rfl
  obtain ⟨E, hE⟩ : ∃ E, authE x.am x.ad.n = E := ⟨_, rfl⟩
  rw [hE]
  have HCE := hidden (fun W => checkAuth_any x.am x.ad.p x.ad.n x.ad.c W (by omega) E hE)
  have k0 : (w.alloc (.cells #[.int .i64 39, .slice x.pr.p x.pr.n x.pr.c, .int .i64 x.eg, .slice x.ed.p x.ed.n x.ed.c, .int .i64 x.ik, .slice x.id.p x.id.n x.id.c, .int .i64 x.am, .slice x.ad.p x.ad.n x.ad.c, .int .i64 x.np, .slice x.ns.p x.ns.n x.ns.c, .int .i64 x.nt, .slice x.nd.p x.nd.n x.nd.c, .int .i64 x.dp, .slice x.ds.p x.ds.n x.ds.c, .slice x.se.p x.se.n x.se.c, .slice x.da.p x.da.n x.da.c] 59)).cell? ⟨w.heap.size, 6, none⟩ = some (.int .i64 x.am) := by go_simp
  have k1 : (w.alloc (.cells #[.int .i64 39, .slice x.pr.p x.pr.n x.pr.c, .int .i64 x.eg, .slice x.ed.p x.ed.n x.ed.c, .int .i64 x.ik, .slice x.id.p x.id.n x.id.c, .int .i64 x.am, .slice x.ad.p x.ad.n x.ad.c, .int .i64 x.np, .slice x.ns.p x.ns.n x.ns.c, .int .i64 x.nt, .slice x.nd.p x.nd.n x.nd.c, .int .i64 x.dp, .slice x.ds.p x.ds.n x.ds.c, .slice x.se.p x.se.n x.se.c, .slice x.da.p x.da.n x.da.c] 59)).cell? ⟨w.heap.size, 7, none⟩ = some (.slice x.ad.p x.ad.n x.ad.c) := by go_simp
  have HY := hidden (h.ad.below HB.out)
  generalize headL x.am C.ad = L at *
  clear h hE
  go_enter Tryz.func44, Tryz.ntmps44
  go_upto_region 10 with fail
  generalize hw2 : (w.alloc (.cells #[.int .i64 39, .slice x.pr.p x.pr.n x.pr.c, .int .i64 x.eg, .slice x.ed.p x.ed.n x.ed.c, .int .i64 x.ik, .slice x.id.p x.id.n x.id.c, .int .i64 x.am, .slice x.ad.p x.ad.n x.ad.c, .int .i64 x.np, .slice x.ns.p x.ns.n x.ns.c, .int .i64 x.nt, .slice x.nd.p x.nd.n x.nd.c, .int .i64 x.dp, .slice x.ds.p x.ds.n x.ds.c, .slice x.se.p x.se.n x.se.c, .slice x.da.p x.da.n x.da.c] 59)) = w2 at *
  have hb2 := HB.out
  have HKK := hidden (fun W (hW : Below w2.heap.size w2 W) => (⟨cell_below hW _ _ k0, cell_below hW _ _ k1⟩ : W.cell? ⟨w.heap.size, 6, none⟩ = some (.int .i64 x.am) ∧ W.cell? ⟨w.heap.size, 7, none⟩ = some (.slice x.ad.p x.ad.n x.ad.c)))
  have HBF := hidden (fun W (hW : Below w2.heap.size w2 W) => before1 (x.am % 256) 0 0 0 hx1 (by omega) (by omega) (by omega) _ _ _ C.ad W (HY.out.below hW) (by omega) L HL.out)
  have HBA := hidden (fun W hW => before1_at (x.am % 256) 0 0 0 hx1 (by omega) (by omega) (by omega) _ _ _ C.ad w2 W HY.out (by omega) L HL.out hW)
  have HR0 := hidden (show Below w2.heap.size w2 w2.drew from drew_below ⟨1, rfl⟩)
  have HRA := hidden (show Below w2.heap.size w2 (w2.alloc (.cells #[.slice x.ad.p x.ad.n x.ad.c] 22)).drew from ((Below.refl _ w2).alloc (Nat.le_refl _) _).trans (drew_below ⟨1, rfl⟩))
  have HFIN := hidden (fun (q : Option Addr) (d : Nat) W (hf : Frs W w2.heap.size q L.length d L) (hW : Below w2.heap.size w2 W) => show GotBE w L E (.returned (.tuple #[.slice q L.length d, .int .i64 E])) W from ⟨q, d, rfl, hf.mono hb2.size, hb2.trans (hW.mono hb2.size)⟩)
  clear hw2 hb2 HB
  generalize w.heap.size = N at *
  go_region_held3 (fun W => W.cell? ⟨N, 6, none⟩ = some (.int .i64 x.am) ∧ W.cell? ⟨N, 7, none⟩ = some (.slice x.ad.p x.ad.n x.ad.c))
    (first | exact HKK.out _ HB5.out | exact HKK.out _ HB6.out | exact HKK.out _ HR0.out | exact HKK.out _ HRA.out | go_keep)
    (first
    | (go_at_call 59; (with_reducible refine (HBA.out _ (Below.refl _ _)).mono ?_); rintro e w5 ⟨q5, d5, rfl, hf5, hb5⟩; have HF5 := hidden (hf5.mono HRA.out.size); have HB5 : Hid (Below w2.heap.size w2 w5) := hidden (HRA.out.trans (hb5.mono HRA.out.size)); clear hf5 hb5)
    | (go_at_call 59; (with_reducible refine (HBF.out _ HB6.out).mono ?_); rintro e w5 ⟨q5, d5, rfl, hf5, hb5⟩; have HF5 := hidden (hf5.mono HB6.out.size); have HB5 : Hid (Below w2.heap.size w2 w5) := hidden (HB6.out.trans (hb5.mono HB6.out.size)); clear hf5 hb5)
    | (go_at_call 59; (with_reducible refine (HBA.out _ HX6.out).mono ?_); rintro e w5 ⟨q5, d5, rfl, hf5, hb5⟩; have HF5 := hidden (hf5.mono HB6.out.size); have HB5 : Hid (Below w2.heap.size w2 w5) := hidden (HB6.out.trans (hb5.mono HB6.out.size)); clear hf5 hb5)
    | (go_at_call 61; (with_reducible refine (HCE.out (w2.alloc (.cells #[.slice x.ad.p x.ad.n x.ad.c] 22)).drew).mono ?_); rintro e w6 ⟨rfl, hb6⟩; have HX6 := hidden hb6; have HB6 : Hid (Below w2.heap.size w2 w6) := hidden (HRA.out.trans (hb6.mono HRA.out.size)); clear hb6)
    | (go_at_call 61; (with_reducible refine (HCE.out _).mono ?_); rintro e w6 ⟨rfl, hb6⟩; have HB6 : Hid (Below w2.heap.size w2 w6) := hidden (by first | exact HB5.out.trans (hb6.mono HB5.out.size) | exact HR0.out.trans (hb6.mono HR0.out.size)); have HF6 : Hid (∀ q d, Frs w5 w2.heap.size q L.length d L → Frs w6 w2.heap.size q L.length d L) := hidden (fun q d hf => hf.below hb6); clear hb6)
    | fail)
  all_goals
    go_wp2
    go_ret2
    first
      | exact HFIN.out q5 d5 _ HF5.out HB5.out
      | exact HFIN.out q5 d5 _ (HF6.out _ _ HF5.out) HB6.out
set_option maxHeartbeats 3200000 in
set_option maxRecDepth 100000 in
theorem pb_40 (x : Pv) (C : Pc) (w : World) (h : RX w x C) (hn : x.da.n ≤ 1000000) :
    Calls Tryz.prog 44 #[.agg #[.int .i64 40, .slice x.pr.p x.pr.n x.pr.c, .int .i64 x.eg, .slice x.ed.p x.ed.n x.ed.c, .int .i64 x.ik, .slice x.id.p x.id.n x.id.c, .int .i64 x.am, .slice x.ad.p x.ad.n x.ad.c, .int .i64 x.np, .slice x.ns.p x.ns.n x.ns.c, .int .i64 x.nt, .slice x.nd.p x.nd.n x.nd.c, .int .i64 x.dp, .slice x.ds.p x.ds.n x.ds.c, .slice x.se.p x.se.n x.se.c, .slice x.da.p x.da.n x.da.c]] w (GotBE w (C.da) (nonceE x.da.n)) := by
  have HB := hidden ((Below.refl w.heap.size w).alloc (Nat.le_refl _) (.cells #[.int .i64 40, .slice x.pr.p x.pr.n x.pr.c, .int .i64 x.eg, .slice x.ed.p x.ed.n x.ed.c, .int .i64 x.ik, .slice x.id.p x.id.n x.id.c, .int .i64 x.am, .slice x.ad.p x.ad.n x.ad.c, .int .i64 x.np, .slice x.ns.p x.ns.n x.ns.c, .int .i64 x.nt, .slice x.nd.p x.nd.n x.nd.c, .int .i64 x.dp, .slice x.ds.p x.ds.n x.ds.c, .slice x.se.p x.se.n x.se.c, .slice x.da.p x.da.n x.da.c] 59))
  have HY := hidden (h.da.below HB.out)
  have HLN := hidden h.da.len
  have HLR := hidden h.da.rng
  have k1 : (w.alloc (.cells #[.int .i64 40, .slice x.pr.p x.pr.n x.pr.c, .int .i64 x.eg, .slice x.ed.p x.ed.n x.ed.c, .int .i64 x.ik, .slice x.id.p x.id.n x.id.c, .int .i64 x.am, .slice x.ad.p x.ad.n x.ad.c, .int .i64 x.np, .slice x.ns.p x.ns.n x.ns.c, .int .i64 x.nt, .slice x.nd.p x.nd.n x.nd.c, .int .i64 x.dp, .slice x.ds.p x.ds.n x.ds.c, .slice x.se.p x.se.n x.se.c, .slice x.da.p x.da.n x.da.c] 59)).cell? ⟨w.heap.size, 15, none⟩ = some (.slice x.da.p x.da.n x.da.c) := by go_simp
  have HCN := hidden (fun W => checkNonce_any x.da.p x.da.n x.da.c W (by omega))
  obtain ⟨L, hL⟩ : ∃ L, C.da = L := ⟨_, rfl⟩
  rw [hL] at HY HLN HLR ⊢
  generalize nonceE x.da.n = E at *
  clear h hL
  go_enter Tryz.func44, Tryz.ntmps44
  go_upto_region 12 with fail
  generalize hw2 : (w.alloc (.cells #[.int .i64 40, .slice x.pr.p x.pr.n x.pr.c, .int .i64 x.eg, .slice x.ed.p x.ed.n x.ed.c, .int .i64 x.ik, .slice x.id.p x.id.n x.id.c, .int .i64 x.am, .slice x.ad.p x.ad.n x.ad.c, .int .i64 x.np, .slice x.ns.p x.ns.n x.ns.c, .int .i64 x.nt, .slice x.nd.p x.nd.n x.nd.c, .int .i64 x.dp, .slice x.ds.p x.ds.n x.ds.c, .slice x.se.p x.se.n x.se.c, .slice x.da.p x.da.n x.da.c] 59)) = w2 at *
  have hb2 := HB.out
  have HKK := hidden (fun W (hW : Below w2.heap.size w2 W) => cell_below hW _ _ k1)
  have HCL := hidden (fun W (hW : Below w2.heap.size w2 W) => clone_any _ _ _ L W (HY.out.below hW) (by omega))
  have HR0 := hidden (show Below w2.heap.size w2 w2.drew from drew_below ⟨1, rfl⟩)
  have HFIN := hidden (fun (q : Option Addr) (d : Nat) W (hf : Frs W w2.heap.size q L.length d L) (hW : Below w2.heap.size w2 W) => show GotBE w L E (.returned (.tuple #[.slice q L.length d, .int .i64 E])) W from ⟨q, d, rfl, hf.mono hb2.size, hb2.trans (hW.mono hb2.size)⟩)
  clear hw2 hb2 HB
  generalize w.heap.size = N at *
  go_region_held3 (fun W => W.cell? ⟨N, 15, none⟩ = some (.slice x.da.p x.da.n x.da.c))
    (first | exact HKK.out _ HB5.out | exact HKK.out _ HR0.out | go_keep)
    (first
    | (go_at_call 49; (with_reducible refine (HCL.out _ HR0.out).mono ?_); rintro e w5 ⟨v5, rfl, ho5, hb5⟩; obtain ⟨q5, d5, rfl, hf5⟩ := ho5.frs rfl HLR.out; have HF5 := hidden (hf5.mono HR0.out.size); have HB5 : Hid (Below w2.heap.size w2 w5) := hidden (HR0.out.trans (hb5.mono HR0.out.size)); clear hf5 hb5 ho5)
    | (go_at_call 62; (with_reducible refine (HCN.out _).mono ?_); rintro e w6 ⟨rfl, rfl⟩)
    | fail)
  all_goals
    go_wp2
    go_ret2
    exact HFIN.out q5 d5 _ HF5.out HB5.out
set_option maxHeartbeats 3200000 in
set_option maxRecDepth 100000 in
theorem pb_X (x : Pv) (C : Pc) (w : World) (t : Int) (h : RX w x C) (hn : x.da.n ≤ 1000000) (hk33 : t ≠ 33) (hk34 : t ≠ 34) (hk35 : t ≠ 35) (hk36 : t ≠ 36) (hk39 : t ≠ 39) (hk40 : t ≠ 40) (hk41 : t ≠ 41) (hk42 : t ≠ 42) (hk44 : t ≠ 44) (hk45 : t ≠ 45) :
    Calls Tryz.prog 44 #[.agg #[.int .i64 t, .slice x.pr.p x.pr.n x.pr.c, .int .i64 x.eg, .slice x.ed.p x.ed.n x.ed.c, .int .i64 x.ik, .slice x.id.p x.id.n x.id.c, .int .i64 x.am, .slice x.ad.p x.ad.n x.ad.c, .int .i64 x.np, .slice x.ns.p x.ns.n x.ns.c, .int .i64 x.nt, .slice x.nd.p x.nd.n x.nd.c, .int .i64 x.dp, .slice x.ds.p x.ds.n x.ds.c, .slice x.se.p x.se.n x.se.c, .slice x.da.p x.da.n x.da.c]] w (GotBE w C.da 0) := by
  have HB := hidden ((Below.refl w.heap.size w).alloc (Nat.le_refl _) (.cells #[.int .i64 t, .slice x.pr.p x.pr.n x.pr.c, .int .i64 x.eg, .slice x.ed.p x.ed.n x.ed.c, .int .i64 x.ik, .slice x.id.p x.id.n x.id.c, .int .i64 x.am, .slice x.ad.p x.ad.n x.ad.c, .int .i64 x.np, .slice x.ns.p x.ns.n x.ns.c, .int .i64 x.nt, .slice x.nd.p x.nd.n x.nd.c, .int .i64 x.dp, .slice x.ds.p x.ds.n x.ds.c, .slice x.se.p x.se.n x.se.c, .slice x.da.p x.da.n x.da.c] 59))
  have k33 : (t == 33) = false := by simpa using hk33
  have k34 : (t == 34) = false := by simpa using hk34
  have k35 : (t == 35) = false := by simpa using hk35
  have k36 : (t == 36) = false := by simpa using hk36
  have k39 : (t == 39) = false := by simpa using hk39
  have k40 : (t == 40) = false := by simpa using hk40
  have k41 : (t == 41) = false := by simpa using hk41
  have k42 : (t == 42) = false := by simpa using hk42
  have k44 : (t == 44) = false := by simpa using hk44
  have k45 : (t == 45) = false := by simpa using hk45
  have HCL := hidden (clone_any _ _ _ C.da _ (h.da.below HB.out) (by omega))
  have HLR := hidden h.da.rng
  obtain ⟨L, hL⟩ : ∃ L, C.da = L := ⟨_, rfl⟩
  rw [hL] at HCL HLR ⊢
  clear h hL hk33 hk34 hk35 hk36 hk39 hk40 hk41 hk42 hk44 hk45
  go_enter Tryz.func44, Tryz.ntmps44
  go_wp2_with (first
    | (go_at_call 49; (with_reducible refine (HCL.out).mono ?_); rintro e w5 ⟨v5, rfl, ho5, hb5⟩; obtain ⟨q5, d5, rfl, hf5⟩ := ho5.frs rfl HLR.out; have HF5 := hidden (hf5.mono HB.out.size); have HB5 := hidden (HB.out.trans (hb5.mono HB.out.size)); clear hf5 hb5 ho5)
    | fail)
  go_ret2
  exact ⟨q5, d5, rfl, HF5.out, HB5.out⟩
end Go.Proofs.YtkniifopfgeopaaGreat
