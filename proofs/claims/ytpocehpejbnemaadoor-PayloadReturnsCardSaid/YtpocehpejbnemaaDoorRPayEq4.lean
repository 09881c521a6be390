/-
  Which payloads are the same: package payload's Same and the document's own, at payloads that can be read, both by one function of what is read.
-/
import Derived.Test.YtpocehpejbnemaaDoorRZ11
import Derived.Test.YtpocehpejbnemaaDoorRPayVal
namespace Go.Proofs.YtpocehpejbnemaaDoor
open Go.RowKit
set_option linter.unusedVariables false

/-- What the slices of a payload hold. -/
structure Pc where
  pr : List PrP
  ed : List Int
  id : List Int
  ad : List Int
  ns : List Int
  nd : List Int
  ds : List Sb
  se : List Sl
  da : List Int
/-- The payload can be read. -/
structure PvRd (w : World) (x : Pv) (C : Pc) : Prop where
  pr : RdG KPr DPr w x.pr.p x.pr.n x.pr.c C.pr
  ed : Byt w x.ed.p x.ed.n x.ed.c C.ed
  id : Byt w x.id.p x.id.n x.id.c C.id
  ad : Byt w x.ad.p x.ad.n x.ad.c C.ad
  ns : Byt w x.ns.p x.ns.n x.ns.c C.ns
  nd : Byt w x.nd.p x.nd.n x.nd.c C.nd
  ds : RdG KSb DSb w x.ds.p x.ds.n x.ds.c C.ds
  se : RdG KSl DSlr w x.se.p x.se.n x.se.c C.se
  da : Byt w x.da.p x.da.n x.da.c C.da
theorem PvRd.below {w w' : World} {x : Pv} {C : Pc} (h : PvRd w x C) (hb : Below w.heap.size w w') : PvRd w' x C :=
  ⟨h.pr.below hb, h.ed.below hb, h.id.below hb, h.ad.below hb, h.ns.below hb, h.nd.below hb, h.ds.below hb, h.se.below hb, h.da.below hb⟩
/-- Both payloads are the same. -/
def sameV (x : Pv) (C : Pc) (y : Pv) (D : Pc) : Bool :=
  if x.t ≠ y.t then false
  else if x.t = 33 then decide (C.pr.map PrP.pr = D.pr.map PrP.pr)
  else if x.t = 34 then decide (x.eg = y.eg) && decide (C.ed = D.ed)
  else if x.t = 35 ∨ x.t = 36 then decide (x.ik = y.ik) && decide (C.id = D.id)
  else if x.t = 39 then decide (x.am = y.am) && decide (C.ad = D.ad)
  else if x.t = 41 then decide (x.np = y.np) && decide (x.nt = y.nt) && decide (C.ns = D.ns) && decide (C.nd = D.nd)
  else if x.t = 42 then decide (x.dp = y.dp) && decide (C.ds.map Sb.xs = D.ds.map Sb.xs)
  else if x.t = 44 ∨ x.t = 45 then decide (C.se = D.se)
  else decide (C.da = D.da)
theorem sameV_refl (x : Pv) (C : Pc) : sameV x C x C = true := by
  unfold sameV
  simp only [ne_eq, not_true_eq_false, if_false, decide_true, Bool.and_true]
  repeat' split
  all_goals rfl

set_option maxHeartbeats 1600000 in
set_option maxRecDepth 100000 in
theorem rsame33 (x y : Pv) (C D : Pc) (w : World) (hx : PvRd w x C) (hy : PvRd w y D) (hk : x.t = 33) (hl : y.t = 33) :
    Calls Tryd.prog 13 #[.agg #[.int .i64 33, .slice x.pr.p x.pr.n x.pr.c, .int .i64 x.eg, .slice x.ed.p x.ed.n x.ed.c, .int .i64 x.ik, .slice x.id.p x.id.n x.id.c, .int .i64 x.am, .slice x.ad.p x.ad.n x.ad.c, .int .i64 x.np, .slice x.ns.p x.ns.n x.ns.c, .int .i64 x.nt, .slice x.nd.p x.nd.n x.nd.c, .int .i64 x.dp, .slice x.ds.p x.ds.n x.ds.c, .slice x.se.p x.se.n x.se.c, .slice x.da.p x.da.n x.da.c], .agg #[.int .i64 33, .slice y.pr.p y.pr.n y.pr.c, .int .i64 y.eg, .slice y.ed.p y.ed.n y.ed.c, .int .i64 y.ik, .slice y.id.p y.id.n y.id.c, .int .i64 y.am, .slice y.ad.p y.ad.n y.ad.c, .int .i64 y.np, .slice y.ns.p y.ns.n y.ns.c, .int .i64 y.nt, .slice y.nd.p y.nd.n y.nd.c, .int .i64 y.dp, .slice y.ds.p y.ds.n y.ds.c, .slice y.se.p y.se.n y.se.c, .slice y.da.p y.da.n y.da.c]] w fun e w' => e = .returned (.bool (sameV x C y D)) ∧ Below w.heap.size w w' := by
  have HB := hidden (below2 w (.cells #[.int .i64 33, .slice x.pr.p x.pr.n x.pr.c, .int .i64 x.eg, .slice x.ed.p x.ed.n x.ed.c, .int .i64 x.ik, .slice x.id.p x.id.n x.id.c, .int .i64 x.am, .slice x.ad.p x.ad.n x.ad.c, .int .i64 x.np, .slice x.ns.p x.ns.n x.ns.c, .int .i64 x.nt, .slice x.nd.p x.nd.n x.nd.c, .int .i64 x.dp, .slice x.ds.p x.ds.n x.ds.c, .slice x.se.p x.se.n x.se.c, .slice x.da.p x.da.n x.da.c] 40) (.cells #[.int .i64 33, .slice y.pr.p y.pr.n y.pr.c, .int .i64 y.eg, .slice y.ed.p y.ed.n y.ed.c, .int .i64 y.ik, .slice y.id.p y.id.n y.id.c, .int .i64 y.am, .slice y.ad.p y.ad.n y.ad.c, .int .i64 y.np, .slice y.ns.p y.ns.n y.ns.c, .int .i64 y.nt, .slice y.nd.p y.nd.n y.nd.c, .int .i64 y.dp, .slice y.ds.p y.ds.n y.ds.c, .slice y.se.p y.se.n y.se.c, .slice y.da.p y.da.n y.da.c] 40))
  have HS : Hid (sameV x C y D = decide (C.pr.map PrP.pr = D.pr.map PrP.pr)) := hidden (by unfold sameV; simp [hk, hl])
  have HE := hidden (same4_any _ _ _ _ _ _ _ _ _ (hx.pr.below HB.out) (hy.pr.below HB.out))
  clear hx hy hk hl
  go_enter Tryd.func13, Tryd.ntmps13
  go_wp2_with (go_at_call 31; (with_reducible refine (HE.out).mono ?_); rintro e w1 ⟨rfl, hb⟩; have HB2 := hidden (HB.out.trans (hb.mono HB.out.size)); clear hb)
  go_ret
  exact ⟨by rw [HS.out]; rfl, HB2.out⟩
set_option maxHeartbeats 1600000 in
set_option maxRecDepth 100000 in
theorem rsame34 (x y : Pv) (C D : Pc) (w : World) (hx : PvRd w x C) (hy : PvRd w y D) (hk : x.t = 34) (hl : y.t = 34) :
    Calls Tryd.prog 13 #[.agg #[.int .i64 34, .slice x.pr.p x.pr.n x.pr.c, .int .i64 x.eg, .slice x.ed.p x.ed.n x.ed.c, .int .i64 x.ik, .slice x.id.p x.id.n x.id.c, .int .i64 x.am, .slice x.ad.p x.ad.n x.ad.c, .int .i64 x.np, .slice x.ns.p x.ns.n x.ns.c, .int .i64 x.nt, .slice x.nd.p x.nd.n x.nd.c, .int .i64 x.dp, .slice x.ds.p x.ds.n x.ds.c, .slice x.se.p x.se.n x.se.c, .slice x.da.p x.da.n x.da.c], .agg #[.int .i64 34, .slice y.pr.p y.pr.n y.pr.c, .int .i64 y.eg, .slice y.ed.p y.ed.n y.ed.c, .int .i64 y.ik, .slice y.id.p y.id.n y.id.c, .int .i64 y.am, .slice y.ad.p y.ad.n y.ad.c, .int .i64 y.np, .slice y.ns.p y.ns.n y.ns.c, .int .i64 y.nt, .slice y.nd.p y.nd.n y.nd.c, .int .i64 y.dp, .slice y.ds.p y.ds.n y.ds.c, .slice y.se.p y.se.n y.se.c, .slice y.da.p y.da.n y.da.c]] w fun e w' => e = .returned (.bool (sameV x C y D)) ∧ Below w.heap.size w w' := by
  have HB := hidden (below2 w (.cells #[.int .i64 34, .slice x.pr.p x.pr.n x.pr.c, .int .i64 x.eg, .slice x.ed.p x.ed.n x.ed.c, .int .i64 x.ik, .slice x.id.p x.id.n x.id.c, .int .i64 x.am, .slice x.ad.p x.ad.n x.ad.c, .int .i64 x.np, .slice x.ns.p x.ns.n x.ns.c, .int .i64 x.nt, .slice x.nd.p x.nd.n x.nd.c, .int .i64 x.dp, .slice x.ds.p x.ds.n x.ds.c, .slice x.se.p x.se.n x.se.c, .slice x.da.p x.da.n x.da.c] 40) (.cells #[.int .i64 34, .slice y.pr.p y.pr.n y.pr.c, .int .i64 y.eg, .slice y.ed.p y.ed.n y.ed.c, .int .i64 y.ik, .slice y.id.p y.id.n y.id.c, .int .i64 y.am, .slice y.ad.p y.ad.n y.ad.c, .int .i64 y.np, .slice y.ns.p y.ns.n y.ns.c, .int .i64 y.nt, .slice y.nd.p y.nd.n y.nd.c, .int .i64 y.dp, .slice y.ds.p y.ds.n y.ds.c, .slice y.se.p y.se.n y.se.c, .slice y.da.p y.da.n y.da.c] 40))
  obtain ⟨b1, hb1⟩ : ∃ b, decide (C.ed = D.ed) = b := ⟨_, rfl⟩
  have Hb1 := hidden (fun W (hb : Below w.heap.size w W) => requal_any _ _ _ _ _ _ _ _ W (hx.ed.below hb) (hy.ed.below hb))
  rw [hb1] at Hb1
  by_cases h1 : x.eg = y.eg
  rotate_left
  · have e1 : (x.eg == y.eg) = false := by simpa using h1
    have HS : Hid (sameV x C y D = false) := hidden (by unfold sameV; simp [hk, hl, h1])
    clear hx hy hb1 h1 hk hl
    go_enter Tryd.func13, Tryd.ntmps13
    go_wp2_with fail
    go_ret
    exact ⟨by rw [HS.out]; rfl, HB.out⟩
  have e1 : (x.eg == y.eg) = true := by simpa using h1
  have HS : Hid (sameV x C y D = b1) := hidden (by rw [← hb1]; unfold sameV; simp [hk, hl, h1])
  clear hx hy hb1 h1 hk hl
  go_enter Tryd.func13, Tryd.ntmps13
  go_wp2_with (go_at_call 21; (with_reducible refine (Hb1.out _ HB.out).mono ?_); rintro e w_b1 ⟨rfl, r_b1, rfl⟩; have HB_b1 := hidden (HB.out.trans ((drew_below ⟨r_b1, rfl⟩).mono HB.out.size)); clear Hb1)
  go_ret
  exact ⟨by rw [HS.out]; rfl, HB_b1.out⟩
set_option maxHeartbeats 1600000 in
set_option maxRecDepth 100000 in
theorem rsame35 (x y : Pv) (C D : Pc) (w : World) (hx : PvRd w x C) (hy : PvRd w y D) (hk : x.t = 35) (hl : y.t = 35) :
    Calls Tryd.prog 13 #[.agg #[.int .i64 35, .slice x.pr.p x.pr.n x.pr.c, .int .i64 x.eg, .slice x.ed.p x.ed.n x.ed.c, .int .i64 x.ik, .slice x.id.p x.id.n x.id.c, .int .i64 x.am, .slice x.ad.p x.ad.n x.ad.c, .int .i64 x.np, .slice x.ns.p x.ns.n x.ns.c, .int .i64 x.nt, .slice x.nd.p x.nd.n x.nd.c, .int .i64 x.dp, .slice x.ds.p x.ds.n x.ds.c, .slice x.se.p x.se.n x.se.c, .slice x.da.p x.da.n x.da.c], .agg #[.int .i64 35, .slice y.pr.p y.pr.n y.pr.c, .int .i64 y.eg, .slice y.ed.p y.ed.n y.ed.c, .int .i64 y.ik, .slice y.id.p y.id.n y.id.c, .int .i64 y.am, .slice y.ad.p y.ad.n y.ad.c, .int .i64 y.np, .slice y.ns.p y.ns.n y.ns.c, .int .i64 y.nt, .slice y.nd.p y.nd.n y.nd.c, .int .i64 y.dp, .slice y.ds.p y.ds.n y.ds.c, .slice y.se.p y.se.n y.se.c, .slice y.da.p y.da.n y.da.c]] w fun e w' => e = .returned (.bool (sameV x C y D)) ∧ Below w.heap.size w w' := by
  have HB := hidden (below2 w (.cells #[.int .i64 35, .slice x.pr.p x.pr.n x.pr.c, .int .i64 x.eg, .slice x.ed.p x.ed.n x.ed.c, .int .i64 x.ik, .slice x.id.p x.id.n x.id.c, .int .i64 x.am, .slice x.ad.p x.ad.n x.ad.c, .int .i64 x.np, .slice x.ns.p x.ns.n x.ns.c, .int .i64 x.nt, .slice x.nd.p x.nd.n x.nd.c, .int .i64 x.dp, .slice x.ds.p x.ds.n x.ds.c, .slice x.se.p x.se.n x.se.c, .slice x.da.p x.da.n x.da.c] 40) (.cells #[.int .i64 35, .slice y.pr.p y.pr.n y.pr.c, .int .i64 y.eg, .slice y.ed.p y.ed.n y.ed.c, .int .i64 y.ik, .slice y.id.p y.id.n y.id.c, .int .i64 y.am, .slice y.ad.p y.ad.n y.ad.c, .int .i64 y.np, .slice y.ns.p y.ns.n y.ns.c, .int .i64 y.nt, .slice y.nd.p y.nd.n y.nd.c, .int .i64 y.dp, .slice y.ds.p y.ds.n y.ds.c, .slice y.se.p y.se.n y.se.c, .slice y.da.p y.da.n y.da.c] 40))
  obtain ⟨b1, hb1⟩ : ∃ b, decide (C.id = D.id) = b := ⟨_, rfl⟩
  have Hb1 := hidden (fun W (hb : Below w.heap.size w W) => requal_any _ _ _ _ _ _ _ _ W (hx.id.below hb) (hy.id.below hb))
  rw [hb1] at Hb1
  by_cases h1 : x.ik = y.ik
  rotate_left
  · have e1 : (x.ik == y.ik) = false := by simpa using h1
    have HS : Hid (sameV x C y D = false) := hidden (by unfold sameV; simp [hk, hl, h1])
    clear hx hy hb1 h1 hk hl
    go_enter Tryd.func13, Tryd.ntmps13
    go_wp2_with fail
    go_ret
    exact ⟨by rw [HS.out]; rfl, HB.out⟩
  have e1 : (x.ik == y.ik) = true := by simpa using h1
  have HS : Hid (sameV x C y D = b1) := hidden (by rw [← hb1]; unfold sameV; simp [hk, hl, h1])
  clear hx hy hb1 h1 hk hl
  go_enter Tryd.func13, Tryd.ntmps13
  go_wp2_with (go_at_call 21; (with_reducible refine (Hb1.out _ HB.out).mono ?_); rintro e w_b1 ⟨rfl, r_b1, rfl⟩; have HB_b1 := hidden (HB.out.trans ((drew_below ⟨r_b1, rfl⟩).mono HB.out.size)); clear Hb1)
  go_ret
  exact ⟨by rw [HS.out]; rfl, HB_b1.out⟩
set_option maxHeartbeats 1600000 in
set_option maxRecDepth 100000 in
theorem rsame36 (x y : Pv) (C D : Pc) (w : World) (hx : PvRd w x C) (hy : PvRd w y D) (hk : x.t = 36) (hl : y.t = 36) :
    Calls Tryd.prog 13 #[.agg #[.int .i64 36, .slice x.pr.p x.pr.n x.pr.c, .int .i64 x.eg, .slice x.ed.p x.ed.n x.ed.c, .int .i64 x.ik, .slice x.id.p x.id.n x.id.c, .int .i64 x.am, .slice x.ad.p x.ad.n x.ad.c, .int .i64 x.np, .slice x.ns.p x.ns.n x.ns.c, .int .i64 x.nt, .slice x.nd.p x.nd.n x.nd.c, .int .i64 x.dp, .slice x.ds.p x.ds.n x.ds.c, .slice x.se.p x.se.n x.se.c, .slice x.da.p x.da.n x.da.c], .agg #[.int .i64 36, .slice y.pr.p y.pr.n y.pr.c, .int .i64 y.eg, .slice y.ed.p y.ed.n y.ed.c, .int .i64 y.ik, .slice y.id.p y.id.n y.id.c, .int .i64 y.am, .slice y.ad.p y.ad.n y.ad.c, .int .i64 y.np, .slice y.ns.p y.ns.n y.ns.c, .int .i64 y.nt, .slice y.nd.p y.nd.n y.nd.c, .int .i64 y.dp, .slice y.ds.p y.ds.n y.ds.c, .slice y.se.p y.se.n y.se.c, .slice y.da.p y.da.n y.da.c]] w fun e w' => e = .returned (.bool (sameV x C y D)) ∧ Below w.heap.size w w' := by
  have HB := hidden (below2 w (.cells #[.int .i64 36, .slice x.pr.p x.pr.n x.pr.c, .int .i64 x.eg, .slice x.ed.p x.ed.n x.ed.c, .int .i64 x.ik, .slice x.id.p x.id.n x.id.c, .int .i64 x.am, .slice x.ad.p x.ad.n x.ad.c, .int .i64 x.np, .slice x.ns.p x.ns.n x.ns.c, .int .i64 x.nt, .slice x.nd.p x.nd.n x.nd.c, .int .i64 x.dp, .slice x.ds.p x.ds.n x.ds.c, .slice x.se.p x.se.n x.se.c, .slice x.da.p x.da.n x.da.c] 40) (.cells #[.int .i64 36, .slice y.pr.p y.pr.n y.pr.c, .int .i64 y.eg, .slice y.ed.p y.ed.n y.ed.c, .int .i64 y.ik, .slice y.id.p y.id.n y.id.c, .int .i64 y.am, .slice y.ad.p y.ad.n y.ad.c, .int .i64 y.np, .slice y.ns.p y.ns.n y.ns.c, .int .i64 y.nt, .slice y.nd.p y.nd.n y.nd.c, .int .i64 y.dp, .slice y.ds.p y.ds.n y.ds.c, .slice y.se.p y.se.n y.se.c, .slice y.da.p y.da.n y.da.c] 40))
  obtain ⟨b1, hb1⟩ : ∃ b, decide (C.id = D.id) = b := ⟨_, rfl⟩
  have Hb1 := hidden (fun W (hb : Below w.heap.size w W) => requal_any _ _ _ _ _ _ _ _ W (hx.id.below hb) (hy.id.below hb))
  rw [hb1] at Hb1
  by_cases h1 : x.ik = y.ik
  rotate_left
  · have e1 : (x.ik == y.ik) = false := by simpa using h1
    have HS : Hid (sameV x C y D = false) := hidden (by unfold sameV; simp [hk, hl, h1])
    clear hx hy hb1 h1 hk hl
    go_enter Tryd.func13, Tryd.ntmps13
    go_wp2_with fail
    go_ret
    exact ⟨by rw [HS.out]; rfl, HB.out⟩
  have e1 : (x.ik == y.ik) = true := by simpa using h1
  have HS : Hid (sameV x C y D = b1) := hidden (by rw [← hb1]; unfold sameV; simp [hk, hl, h1])
  clear hx hy hb1 h1 hk hl
  go_enter Tryd.func13, Tryd.ntmps13
  go_wp2_with (go_at_call 21; (with_reducible refine (Hb1.out _ HB.out).mono ?_); rintro e w_b1 ⟨rfl, r_b1, rfl⟩; have HB_b1 := hidden (HB.out.trans ((drew_below ⟨r_b1, rfl⟩).mono HB.out.size)); clear Hb1)
  go_ret
  exact ⟨by rw [HS.out]; rfl, HB_b1.out⟩
set_option maxHeartbeats 1600000 in
set_option maxRecDepth 100000 in
theorem rsame39 (x y : Pv) (C D : Pc) (w : World) (hx : PvRd w x C) (hy : PvRd w y D) (hk : x.t = 39) (hl : y.t = 39) :
    Calls Tryd.prog 13 #[.agg #[.int .i64 39, .slice x.pr.p x.pr.n x.pr.c, .int .i64 x.eg, .slice x.ed.p x.ed.n x.ed.c, .int .i64 x.ik, .slice x.id.p x.id.n x.id.c, .int .i64 x.am, .slice x.ad.p x.ad.n x.ad.c, .int .i64 x.np, .slice x.ns.p x.ns.n x.ns.c, .int .i64 x.nt, .slice x.nd.p x.nd.n x.nd.c, .int .i64 x.dp, .slice x.ds.p x.ds.n x.ds.c, .slice x.se.p x.se.n x.se.c, .slice x.da.p x.da.n x.da.c], .agg #[.int .i64 39, .slice y.pr.p y.pr.n y.pr.c, .int .i64 y.eg, .slice y.ed.p y.ed.n y.ed.c, .int .i64 y.ik, .slice y.id.p y.id.n y.id.c, .int .i64 y.am, .slice y.ad.p y.ad.n y.ad.c, .int .i64 y.np, .slice y.ns.p y.ns.n y.ns.c, .int .i64 y.nt, .slice y.nd.p y.nd.n y.nd.c, .int .i64 y.dp, .slice y.ds.p y.ds.n y.ds.c, .slice y.se.p y.se.n y.se.c, .slice y.da.p y.da.n y.da.c]] w fun e w' => e = .returned (.bool (sameV x C y D)) ∧ Below w.heap.size w w' := by
  have HB := hidden (below2 w (.cells #[.int .i64 39, .slice x.pr.p x.pr.n x.pr.c, .int .i64 x.eg, .slice x.ed.p x.ed.n x.ed.c, .int .i64 x.ik, .slice x.id.p x.id.n x.id.c, .int .i64 x.am, .slice x.ad.p x.ad.n x.ad.c, .int .i64 x.np, .slice x.ns.p x.ns.n x.ns.c, .int .i64 x.nt, .slice x.nd.p x.nd.n x.nd.c, .int .i64 x.dp, .slice x.ds.p x.ds.n x.ds.c, .slice x.se.p x.se.n x.se.c, .slice x.da.p x.da.n x.da.c] 40) (.cells #[.int .i64 39, .slice y.pr.p y.pr.n y.pr.c, .int .i64 y.eg, .slice y.ed.p y.ed.n y.ed.c, .int .i64 y.ik, .slice y.id.p y.id.n y.id.c, .int .i64 y.am, .slice y.ad.p y.ad.n y.ad.c, .int .i64 y.np, .slice y.ns.p y.ns.n y.ns.c, .int .i64 y.nt, .slice y.nd.p y.nd.n y.nd.c, .int .i64 y.dp, .slice y.ds.p y.ds.n y.ds.c, .slice y.se.p y.se.n y.se.c, .slice y.da.p y.da.n y.da.c] 40))
  obtain ⟨b1, hb1⟩ : ∃ b, decide (C.ad = D.ad) = b := ⟨_, rfl⟩
  have Hb1 := hidden (fun W (hb : Below w.heap.size w W) => requal_any _ _ _ _ _ _ _ _ W (hx.ad.below hb) (hy.ad.below hb))
  rw [hb1] at Hb1
  by_cases h1 : x.am = y.am
  rotate_left
  · have e1 : (x.am == y.am) = false := by simpa using h1
    have HS : Hid (sameV x C y D = false) := hidden (by unfold sameV; simp [hk, hl, h1])
    clear hx hy hb1 h1 hk hl
    go_enter Tryd.func13, Tryd.ntmps13
    go_wp2_with fail
    go_ret
    exact ⟨by rw [HS.out]; rfl, HB.out⟩
  have e1 : (x.am == y.am) = true := by simpa using h1
  have HS : Hid (sameV x C y D = b1) := hidden (by rw [← hb1]; unfold sameV; simp [hk, hl, h1])
  clear hx hy hb1 h1 hk hl
  go_enter Tryd.func13, Tryd.ntmps13
  go_wp2_with (go_at_call 21; (with_reducible refine (Hb1.out _ HB.out).mono ?_); rintro e w_b1 ⟨rfl, r_b1, rfl⟩; have HB_b1 := hidden (HB.out.trans ((drew_below ⟨r_b1, rfl⟩).mono HB.out.size)); clear Hb1)
  go_ret
  exact ⟨by rw [HS.out]; rfl, HB_b1.out⟩
set_option maxHeartbeats 1600000 in
set_option maxRecDepth 100000 in
theorem rsame41 (x y : Pv) (C D : Pc) (w : World) (hx : PvRd w x C) (hy : PvRd w y D) (hk : x.t = 41) (hl : y.t = 41) :
    Calls Tryd.prog 13 #[.agg #[.int .i64 41, .slice x.pr.p x.pr.n x.pr.c, .int .i64 x.eg, .slice x.ed.p x.ed.n x.ed.c, .int .i64 x.ik, .slice x.id.p x.id.n x.id.c, .int .i64 x.am, .slice x.ad.p x.ad.n x.ad.c, .int .i64 x.np, .slice x.ns.p x.ns.n x.ns.c, .int .i64 x.nt, .slice x.nd.p x.nd.n x.nd.c, .int .i64 x.dp, .slice x.ds.p x.ds.n x.ds.c, .slice x.se.p x.se.n x.se.c, .slice x.da.p x.da.n x.da.c], .agg #[.int .i64 41, .slice y.pr.p y.pr.n y.pr.c, .int .i64 y.eg, .slice y.ed.p y.ed.n y.ed.c, .int .i64 y.ik, .slice y.id.p y.id.n y.id.c, .int .i64 y.am, .slice y.ad.p y.ad.n y.ad.c, .int .i64 y.np, .slice y.ns.p y.ns.n y.ns.c, .int .i64 y.nt, .slice y.nd.p y.nd.n y.nd.c, .int .i64 y.dp, .slice y.ds.p y.ds.n y.ds.c, .slice y.se.p y.se.n y.se.c, .slice y.da.p y.da.n y.da.c]] w fun e w' => e = .returned (.bool (sameV x C y D)) ∧ Below w.heap.size w w' := by
  have HB := hidden (below2 w (.cells #[.int .i64 41, .slice x.pr.p x.pr.n x.pr.c, .int .i64 x.eg, .slice x.ed.p x.ed.n x.ed.c, .int .i64 x.ik, .slice x.id.p x.id.n x.id.c, .int .i64 x.am, .slice x.ad.p x.ad.n x.ad.c, .int .i64 x.np, .slice x.ns.p x.ns.n x.ns.c, .int .i64 x.nt, .slice x.nd.p x.nd.n x.nd.c, .int .i64 x.dp, .slice x.ds.p x.ds.n x.ds.c, .slice x.se.p x.se.n x.se.c, .slice x.da.p x.da.n x.da.c] 40) (.cells #[.int .i64 41, .slice y.pr.p y.pr.n y.pr.c, .int .i64 y.eg, .slice y.ed.p y.ed.n y.ed.c, .int .i64 y.ik, .slice y.id.p y.id.n y.id.c, .int .i64 y.am, .slice y.ad.p y.ad.n y.ad.c, .int .i64 y.np, .slice y.ns.p y.ns.n y.ns.c, .int .i64 y.nt, .slice y.nd.p y.nd.n y.nd.c, .int .i64 y.dp, .slice y.ds.p y.ds.n y.ds.c, .slice y.se.p y.se.n y.se.c, .slice y.da.p y.da.n y.da.c] 40))
  obtain ⟨b1, hb1⟩ : ∃ b, decide (C.ns = D.ns) = b := ⟨_, rfl⟩
  have Hb1 := hidden (fun W (hb : Below w.heap.size w W) => requal_any _ _ _ _ _ _ _ _ W (hx.ns.below hb) (hy.ns.below hb))
  rw [hb1] at Hb1
  obtain ⟨b2, hb2⟩ : ∃ b, decide (C.nd = D.nd) = b := ⟨_, rfl⟩
  have Hb2 := hidden (fun W (hb : Below w.heap.size w W) => requal_any _ _ _ _ _ _ _ _ W (hx.nd.below hb) (hy.nd.below hb))
  rw [hb2] at Hb2
  by_cases h1 : x.np = y.np
  rotate_left
  · have e1 : (x.np == y.np) = false := by simpa using h1
    have HS : Hid (sameV x C y D = false) := hidden (by unfold sameV; simp [hk, hl, h1])
    clear hx hy hb1 hb2 hk hl
    clear h1
    go_enter Tryd.func13, Tryd.ntmps13
    go_wp2_with fail
    go_ret
    exact ⟨by rw [HS.out]; rfl, HB.out⟩
  have e1 : (x.np == y.np) = true := by simpa using h1
  by_cases h2 : x.nt = y.nt
  rotate_left
  · have e2 : (x.nt == y.nt) = false := by simpa using h2
    have HS : Hid (sameV x C y D = false) := hidden (by unfold sameV; simp [hk, hl, h2])
    clear hx hy hb1 hb2 hk hl
    clear h1 h2
    go_enter Tryd.func13, Tryd.ntmps13
    go_wp2_with fail
    go_ret
    exact ⟨by rw [HS.out]; rfl, HB.out⟩
  have e2 : (x.nt == y.nt) = true := by simpa using h2
  have HS : Hid (sameV x C y D = (b1 && b2)) := hidden (by rw [← hb1, ← hb2]; unfold sameV; simp [hk, hl, h1, h2])
  clear hx hy hb1 hb2 h1 h2 hk hl
  cases b1 with
  | false =>
    go_enter Tryd.func13, Tryd.ntmps13
    go_wp2_with (go_at_call 21; (with_reducible refine (Hb1.out _ HB.out).mono ?_); rintro e w_b1 ⟨rfl, r_b1, rfl⟩; have HB_b1 := hidden (HB.out.trans ((drew_below ⟨r_b1, rfl⟩).mono HB.out.size)); clear Hb1)
    go_ret
    exact ⟨by rw [HS.out]; rfl, HB_b1.out⟩
  | true =>
    go_enter Tryd.func13, Tryd.ntmps13
    go_wp2_with (first
      | (go_at_call 21; (with_reducible refine (Hb1.out _ HB.out).mono ?_); rintro e w_b1 ⟨rfl, r_b1, rfl⟩; have HB_b1 := hidden (HB.out.trans ((drew_below ⟨r_b1, rfl⟩).mono HB.out.size)); clear Hb1)
      | (go_at_call 21; (with_reducible refine (Hb2.out _ HB_b1.out).mono ?_); rintro e w_b2 ⟨rfl, r_b2, rfl⟩; have HB_b2 := hidden (HB_b1.out.trans ((drew_below ⟨r_b2, rfl⟩).mono HB_b1.out.size)); clear Hb2)
      | fail)
    go_ret
    exact ⟨by rw [HS.out]; rfl, HB.out.trans ((drew_below ⟨_, rfl⟩).mono HB.out.size)⟩
set_option maxHeartbeats 1600000 in
set_option maxRecDepth 100000 in
theorem rsame42 (x y : Pv) (C D : Pc) (w : World) (hx : PvRd w x C) (hy : PvRd w y D) (hk : x.t = 42) (hl : y.t = 42) :
    Calls Tryd.prog 13 #[.agg #[.int .i64 42, .slice x.pr.p x.pr.n x.pr.c, .int .i64 x.eg, .slice x.ed.p x.ed.n x.ed.c, .int .i64 x.ik, .slice x.id.p x.id.n x.id.c, .int .i64 x.am, .slice x.ad.p x.ad.n x.ad.c, .int .i64 x.np, .slice x.ns.p x.ns.n x.ns.c, .int .i64 x.nt, .slice x.nd.p x.nd.n x.nd.c, .int .i64 x.dp, .slice x.ds.p x.ds.n x.ds.c, .slice x.se.p x.se.n x.se.c, .slice x.da.p x.da.n x.da.c], .agg #[.int .i64 42, .slice y.pr.p y.pr.n y.pr.c, .int .i64 y.eg, .slice y.ed.p y.ed.n y.ed.c, .int .i64 y.ik, .slice y.id.p y.id.n y.id.c, .int .i64 y.am, .slice y.ad.p y.ad.n y.ad.c, .int .i64 y.np, .slice y.ns.p y.ns.n y.ns.c, .int .i64 y.nt, .slice y.nd.p y.nd.n y.nd.c, .int .i64 y.dp, .slice y.ds.p y.ds.n y.ds.c, .slice y.se.p y.se.n y.se.c, .slice y.da.p y.da.n y.da.c]] w fun e w' => e = .returned (.bool (sameV x C y D)) ∧ Below w.heap.size w w' := by
  have HB := hidden (below2 w (.cells #[.int .i64 42, .slice x.pr.p x.pr.n x.pr.c, .int .i64 x.eg, .slice x.ed.p x.ed.n x.ed.c, .int .i64 x.ik, .slice x.id.p x.id.n x.id.c, .int .i64 x.am, .slice x.ad.p x.ad.n x.ad.c, .int .i64 x.np, .slice x.ns.p x.ns.n x.ns.c, .int .i64 x.nt, .slice x.nd.p x.nd.n x.nd.c, .int .i64 x.dp, .slice x.ds.p x.ds.n x.ds.c, .slice x.se.p x.se.n x.se.c, .slice x.da.p x.da.n x.da.c] 40) (.cells #[.int .i64 42, .slice y.pr.p y.pr.n y.pr.c, .int .i64 y.eg, .slice y.ed.p y.ed.n y.ed.c, .int .i64 y.ik, .slice y.id.p y.id.n y.id.c, .int .i64 y.am, .slice y.ad.p y.ad.n y.ad.c, .int .i64 y.np, .slice y.ns.p y.ns.n y.ns.c, .int .i64 y.nt, .slice y.nd.p y.nd.n y.nd.c, .int .i64 y.dp, .slice y.ds.p y.ds.n y.ds.c, .slice y.se.p y.se.n y.se.c, .slice y.da.p y.da.n y.da.c] 40))
  by_cases h1 : x.dp = y.dp
  rotate_left
  · have e1 : (x.dp != y.dp) = true := by simpa using h1
    have HS : Hid (sameV x C y D = false) := hidden (by unfold sameV; simp [hk, hl, h1])
    clear hx hy h1 hk hl
    go_enter Tryd.func13, Tryd.ntmps13
    go_wp2_with fail
    go_ret
    exact ⟨by rw [HS.out]; rfl, HB.out⟩
  have HS : Hid (sameV x C y D = decide (C.ds.map Sb.xs = D.ds.map Sb.xs)) := hidden (by unfold sameV; simp [hk, hl, h1])
  have e1 : (x.dp != y.dp) = false := by simpa using h1
  have H := hidden (hx.ds.below HB.out)
  have K := hidden (hy.ds.below HB.out)
  have hn := hx.ds.le
  have hm := hy.ds.le
  have HL : Hid ((C.ds.map Sb.xs).length = x.ds.n) := hidden (by rw [List.length_map, hx.ds.len])
  have KL : Hid ((D.ds.map Sb.xs).length = y.ds.n) := hidden (by rw [List.length_map, hy.ds.len])
  clear hx hy h1 hk hl
  by_cases hnm : x.ds.n = y.ds.n
  rotate_left
  · have hne : ((x.ds.n : Int) != (y.ds.n : Int)) = true := by simp; omega
    have hd := decide_eq_false (differ_len HL.out KL.out hnm)
    clear hnm
    go_enter Tryd.func13, Tryd.ntmps13
    go_wp2
    go_ret
    exact ⟨by rw [HS.out, hd]; rfl, HB.out⟩
  have hne : ((x.ds.n : Int) != (y.ds.n : Int)) = false := by simp; omega
  have HNM := hidden hnm
  have KL2 : Hid ((D.ds.map Sb.xs).length = x.ds.n) := hidden (by rw [KL.out, hnm])
  clear hnm
  go_enter Tryd.func13, Tryd.ntmps13
  go_wp2_with fail
  go_loopw [5] (fun i wr => ∃ j : Nat, j ≤ x.ds.n ∧ i = .int .i64 j ∧ (C.ds.map Sb.xs).take j = (D.ds.map Sb.xs).take j ∧ wr.cell? ⟨w.heap.size, 13, none⟩ = some (.slice x.ds.p x.ds.n x.ds.c) ∧ wr.cell? ⟨w.heap.size + 1, 13, none⟩ = some (.slice y.ds.p y.ds.n y.ds.c) ∧ RdG KSb DSb wr x.ds.p x.ds.n x.ds.c C.ds ∧ RdG KSb DSb wr y.ds.p y.ds.n y.ds.c D.ds ∧ Below w.heap.size w wr) (fun i _ => x.ds.n - (intOf i).toNat)
  case atStart => exact ⟨0, by omega, rfl, by simp, by go_simp, by go_simp, H.out, K.out, HB.out⟩
  case round =>
    obtain ⟨j, hj, rfl, ht, f, g, hh, hk, hbel⟩ := hrel
    have HBL := hidden hbel
    have HT := hidden ht
    have HF := hidden f
    have HG := hidden g
    have H1 := hidden hh
    have K1 := hidden hk
    clear hbel ht hh hk
    by_cases hlt : ¬ j < x.ds.n
    · obtain rfl : j = x.ds.n := by omega
      have hd := decide_eq_true (take_whole HL.out KL2.out HT.out)
      go_wp2
      go_ret
      exact ⟨by rw [HS.out, hd]; rfl, HBL.out⟩
    replace hlt : j < x.ds.n := by omega
    have hlt' : (j : Int) < x.ds.n := by omega
    have hlt2 : (j : Int) < y.ds.n := by have := HNM.out; omega
    have hja : j < C.ds.length := by rw [H.out.len]; exact hlt
    have hjb : j < D.ds.length := by have := HNM.out; rw [K.out.len]; omega
    obtain ⟨ga, hga, hc, hok⟩ := H1.out.cell j hja
    obtain ⟨gb, hgb, hc2, hok2⟩ := K1.out.cell j hjb
    rw [hga] at f
    rw [hgb] at g
    obtain ⟨u, hu⟩ : ∃ u, C.ds[j] = u := ⟨_, rfl⟩
    obtain ⟨v, hv⟩ : ∃ v, D.ds[j] = v := ⟨_, rfl⟩
    have hja' : j < (C.ds.map Sb.xs).length := by rw [List.length_map]; exact hja
    have hjb' : j < (D.ds.map Sb.xs).length := by rw [List.length_map]; exact hjb
    have HNX := hidden (fun (e : u.xs = v.xs) => take_next hja' hjb' HT.out (by rw [List.getElem_map, List.getElem_map, hu, hv, e]))
    have HDF := hidden (fun (e : u.xs ≠ v.xs) => decide_eq_false (differ_at hja' hjb' (by rw [List.getElem_map, List.getElem_map, hu, hv]; exact e)))
    rw [hu] at hc hok
    rw [hv] at hc2 hok2
    have c0 := hc 0 _ rfl
    have d0 := hc2 0 _ rfl
    simp only [KSb, Nat.add_zero, Nat.mul_one] at c0 d0
    clear hc hc2
    clear hu hv hja hjb hja' hjb' HT
    obtain ⟨b, hbd⟩ : ∃ b, decide (u.xs = v.xs) = b := ⟨_, rfl⟩
    have HQ := hidden (fun a => (requal_any u.p v.p u.n u.c v.n v.c u.xs v.xs (wr.drewN a) (Byt.keep hok (fun _ _ h => h)) (Byt.keep hok2 (fun _ _ h => h))).mono (R' := fun e w' => e = .returned (.bool b) ∧ ∃ r, w' = (wr.drewN a).drewN r) (fun e w' ⟨h1, h2⟩ => ⟨by rw [h1, hbd], h2⟩))
    have HBD := hidden hbd
    clear hok hok2 hbd
    cases b with
    | true =>
      have HN := hidden (HNX.out (of_decide_eq_true HBD.out))
      clear HNX HDF
      go_wp2
      go_quiet ((go_at_call 21; (with_reducible exact Calls.quiet_of (HQ.out _))))
      go_wp2
      go_roundw
      case rel => exact ⟨j + 1, by omega, by go_num, HN.out, cell_below (drew_below (B := wr.heap.size) ⟨_, rfl⟩) _ _ HF.out, cell_below (drew_below (B := wr.heap.size) ⟨_, rfl⟩) _ _ HG.out, H1.out.below (drew_below ⟨_, rfl⟩), K1.out.below (drew_below ⟨_, rfl⟩), HBL.out.trans (drew_below ⟨_, rfl⟩)⟩
      case measure => simp [intOf]; omega
    | false =>
      have HD := hidden (HDF.out (of_decide_eq_false HBD.out))
      clear HNX HDF
      go_wp2
      go_quiet ((go_at_call 21; (with_reducible exact Calls.quiet_of (HQ.out _))))
      go_wp2
      go_ret
      exact ⟨by rw [HS.out, HD.out]; rfl, HBL.out.trans (drew_below ⟨_, rfl⟩)⟩
set_option maxHeartbeats 1600000 in
set_option maxRecDepth 100000 in
theorem rsame44 (x y : Pv) (C D : Pc) (w : World) (hx : PvRd w x C) (hy : PvRd w y D) (hk : x.t = 44) (hl : y.t = 44) :
    Calls Tryd.prog 13 #[.agg #[.int .i64 44, .slice x.pr.p x.pr.n x.pr.c, .int .i64 x.eg, .slice x.ed.p x.ed.n x.ed.c, .int .i64 x.ik, .slice x.id.p x.id.n x.id.c, .int .i64 x.am, .slice x.ad.p x.ad.n x.ad.c, .int .i64 x.np, .slice x.ns.p x.ns.n x.ns.c, .int .i64 x.nt, .slice x.nd.p x.nd.n x.nd.c, .int .i64 x.dp, .slice x.ds.p x.ds.n x.ds.c, .slice x.se.p x.se.n x.se.c, .slice x.da.p x.da.n x.da.c], .agg #[.int .i64 44, .slice y.pr.p y.pr.n y.pr.c, .int .i64 y.eg, .slice y.ed.p y.ed.n y.ed.c, .int .i64 y.ik, .slice y.id.p y.id.n y.id.c, .int .i64 y.am, .slice y.ad.p y.ad.n y.ad.c, .int .i64 y.np, .slice y.ns.p y.ns.n y.ns.c, .int .i64 y.nt, .slice y.nd.p y.nd.n y.nd.c, .int .i64 y.dp, .slice y.ds.p y.ds.n y.ds.c, .slice y.se.p y.se.n y.se.c, .slice y.da.p y.da.n y.da.c]] w fun e w' => e = .returned (.bool (sameV x C y D)) ∧ Below w.heap.size w w' := by
  have HB := hidden (below2 w (.cells #[.int .i64 44, .slice x.pr.p x.pr.n x.pr.c, .int .i64 x.eg, .slice x.ed.p x.ed.n x.ed.c, .int .i64 x.ik, .slice x.id.p x.id.n x.id.c, .int .i64 x.am, .slice x.ad.p x.ad.n x.ad.c, .int .i64 x.np, .slice x.ns.p x.ns.n x.ns.c, .int .i64 x.nt, .slice x.nd.p x.nd.n x.nd.c, .int .i64 x.dp, .slice x.ds.p x.ds.n x.ds.c, .slice x.se.p x.se.n x.se.c, .slice x.da.p x.da.n x.da.c] 40) (.cells #[.int .i64 44, .slice y.pr.p y.pr.n y.pr.c, .int .i64 y.eg, .slice y.ed.p y.ed.n y.ed.c, .int .i64 y.ik, .slice y.id.p y.id.n y.id.c, .int .i64 y.am, .slice y.ad.p y.ad.n y.ad.c, .int .i64 y.np, .slice y.ns.p y.ns.n y.ns.c, .int .i64 y.nt, .slice y.nd.p y.nd.n y.nd.c, .int .i64 y.dp, .slice y.ds.p y.ds.n y.ds.c, .slice y.se.p y.se.n y.se.c, .slice y.da.p y.da.n y.da.c] 40))
  have HS : Hid (sameV x C y D = decide (C.se = D.se)) := hidden (by unfold sameV; simp [hk, hl])
  have HE := hidden (same5_any _ _ _ _ _ _ _ _ _ (hx.se.below HB.out) (hy.se.below HB.out))
  clear hx hy hk hl
  go_enter Tryd.func13, Tryd.ntmps13
  go_wp2_with (go_at_call 32; (with_reducible refine (HE.out).mono ?_); rintro e w1 ⟨rfl, hb⟩; have HB2 := hidden (HB.out.trans (hb.mono HB.out.size)); clear hb)
  go_ret
  exact ⟨by rw [HS.out]; rfl, HB2.out⟩
set_option maxHeartbeats 1600000 in
set_option maxRecDepth 100000 in
theorem rsame45 (x y : Pv) (C D : Pc) (w : World) (hx : PvRd w x C) (hy : PvRd w y D) (hk : x.t = 45) (hl : y.t = 45) :
    Calls Tryd.prog 13 #[.agg #[.int .i64 45, .slice x.pr.p x.pr.n x.pr.c, .int .i64 x.eg, .slice x.ed.p x.ed.n x.ed.c, .int .i64 x.ik, .slice x.id.p x.id.n x.id.c, .int .i64 x.am, .slice x.ad.p x.ad.n x.ad.c, .int .i64 x.np, .slice x.ns.p x.ns.n x.ns.c, .int .i64 x.nt, .slice x.nd.p x.nd.n x.nd.c, .int .i64 x.dp, .slice x.ds.p x.ds.n x.ds.c, .slice x.se.p x.se.n x.se.c, .slice x.da.p x.da.n x.da.c], .agg #[.int .i64 45, .slice y.pr.p y.pr.n y.pr.c, .int .i64 y.eg, .slice y.ed.p y.ed.n y.ed.c, .int .i64 y.ik, .slice y.id.p y.id.n y.id.c, .int .i64 y.am, .slice y.ad.p y.ad.n y.ad.c, .int .i64 y.np, .slice y.ns.p y.ns.n y.ns.c, .int .i64 y.nt, .slice y.nd.p y.nd.n y.nd.c, .int .i64 y.dp, .slice y.ds.p y.ds.n y.ds.c, .slice y.se.p y.se.n y.se.c, .slice y.da.p y.da.n y.da.c]] w fun e w' => e = .returned (.bool (sameV x C y D)) ∧ Below w.heap.size w w' := by
  have HB := hidden (below2 w (.cells #[.int .i64 45, .slice x.pr.p x.pr.n x.pr.c, .int .i64 x.eg, .slice x.ed.p x.ed.n x.ed.c, .int .i64 x.ik, .slice x.id.p x.id.n x.id.c, .int .i64 x.am, .slice x.ad.p x.ad.n x.ad.c, .int .i64 x.np, .slice x.ns.p x.ns.n x.ns.c, .int .i64 x.nt, .slice x.nd.p x.nd.n x.nd.c, .int .i64 x.dp, .slice x.ds.p x.ds.n x.ds.c, .slice x.se.p x.se.n x.se.c, .slice x.da.p x.da.n x.da.c] 40) (.cells #[.int .i64 45, .slice y.pr.p y.pr.n y.pr.c, .int .i64 y.eg, .slice y.ed.p y.ed.n y.ed.c, .int .i64 y.ik, .slice y.id.p y.id.n y.id.c, .int .i64 y.am, .slice y.ad.p y.ad.n y.ad.c, .int .i64 y.np, .slice y.ns.p y.ns.n y.ns.c, .int .i64 y.nt, .slice y.nd.p y.nd.n y.nd.c, .int .i64 y.dp, .slice y.ds.p y.ds.n y.ds.c, .slice y.se.p y.se.n y.se.c, .slice y.da.p y.da.n y.da.c] 40))
  have HS : Hid (sameV x C y D = decide (C.se = D.se)) := hidden (by unfold sameV; simp [hk, hl])
  have HE := hidden (same5_any _ _ _ _ _ _ _ _ _ (hx.se.below HB.out) (hy.se.below HB.out))
  clear hx hy hk hl
  go_enter Tryd.func13, Tryd.ntmps13
  go_wp2_with (go_at_call 32; (with_reducible refine (HE.out).mono ?_); rintro e w1 ⟨rfl, hb⟩; have HB2 := hidden (HB.out.trans (hb.mono HB.out.size)); clear hb)
  go_ret
  exact ⟨by rw [HS.out]; rfl, HB2.out⟩
set_option maxHeartbeats 1600000 in
set_option maxRecDepth 100000 in
theorem rsameX (x y : Pv) (C D : Pc) (w : World) (hx : PvRd w x C) (hy : PvRd w y D) (t : Int) (hk : x.t = t) (hl : y.t = t) (hk33 : t ≠ 33) (hk34 : t ≠ 34) (hk35 : t ≠ 35) (hk36 : t ≠ 36) (hk39 : t ≠ 39) (hk41 : t ≠ 41) (hk42 : t ≠ 42) (hk44 : t ≠ 44) (hk45 : t ≠ 45) :
    Calls Tryd.prog 13 #[.agg #[.int .i64 t, .slice x.pr.p x.pr.n x.pr.c, .int .i64 x.eg, .slice x.ed.p x.ed.n x.ed.c, .int .i64 x.ik, .slice x.id.p x.id.n x.id.c, .int .i64 x.am, .slice x.ad.p x.ad.n x.ad.c, .int .i64 x.np, .slice x.ns.p x.ns.n x.ns.c, .int .i64 x.nt, .slice x.nd.p x.nd.n x.nd.c, .int .i64 x.dp, .slice x.ds.p x.ds.n x.ds.c, .slice x.se.p x.se.n x.se.c, .slice x.da.p x.da.n x.da.c], .agg #[.int .i64 t, .slice y.pr.p y.pr.n y.pr.c, .int .i64 y.eg, .slice y.ed.p y.ed.n y.ed.c, .int .i64 y.ik, .slice y.id.p y.id.n y.id.c, .int .i64 y.am, .slice y.ad.p y.ad.n y.ad.c, .int .i64 y.np, .slice y.ns.p y.ns.n y.ns.c, .int .i64 y.nt, .slice y.nd.p y.nd.n y.nd.c, .int .i64 y.dp, .slice y.ds.p y.ds.n y.ds.c, .slice y.se.p y.se.n y.se.c, .slice y.da.p y.da.n y.da.c]] w fun e w' => e = .returned (.bool (sameV x C y D)) ∧ Below w.heap.size w w' := by
  have HB := hidden (below2 w (.cells #[.int .i64 t, .slice x.pr.p x.pr.n x.pr.c, .int .i64 x.eg, .slice x.ed.p x.ed.n x.ed.c, .int .i64 x.ik, .slice x.id.p x.id.n x.id.c, .int .i64 x.am, .slice x.ad.p x.ad.n x.ad.c, .int .i64 x.np, .slice x.ns.p x.ns.n x.ns.c, .int .i64 x.nt, .slice x.nd.p x.nd.n x.nd.c, .int .i64 x.dp, .slice x.ds.p x.ds.n x.ds.c, .slice x.se.p x.se.n x.se.c, .slice x.da.p x.da.n x.da.c] 40) (.cells #[.int .i64 t, .slice y.pr.p y.pr.n y.pr.c, .int .i64 y.eg, .slice y.ed.p y.ed.n y.ed.c, .int .i64 y.ik, .slice y.id.p y.id.n y.id.c, .int .i64 y.am, .slice y.ad.p y.ad.n y.ad.c, .int .i64 y.np, .slice y.ns.p y.ns.n y.ns.c, .int .i64 y.nt, .slice y.nd.p y.nd.n y.nd.c, .int .i64 y.dp, .slice y.ds.p y.ds.n y.ds.c, .slice y.se.p y.se.n y.se.c, .slice y.da.p y.da.n y.da.c] 40))
  have e0 : (t != t) = false := by simp
  have k33 : (t == 33) = false := by simpa using hk33
  have k34 : (t == 34) = false := by simpa using hk34
  have k35 : (t == 35) = false := by simpa using hk35
  have k36 : (t == 36) = false := by simpa using hk36
  have k39 : (t == 39) = false := by simpa using hk39
  have k41 : (t == 41) = false := by simpa using hk41
  have k42 : (t == 42) = false := by simpa using hk42
  have k44 : (t == 44) = false := by simpa using hk44
  have k45 : (t == 45) = false := by simpa using hk45
  obtain ⟨b1, hb1⟩ : ∃ b, decide (C.da = D.da) = b := ⟨_, rfl⟩
  have Hb1 := hidden (fun W (hb : Below w.heap.size w W) => requal_any _ _ _ _ _ _ _ _ W (hx.da.below hb) (hy.da.below hb))
  rw [hb1] at Hb1
  have HS : Hid (sameV x C y D = b1) := hidden (by rw [← hb1]; unfold sameV; simp [hk, hl, hk33, hk34, hk35, hk36, hk39, hk41, hk42, hk44, hk45])
  clear hx hy hb1 hk hl hk33 hk34 hk35 hk36 hk39 hk41 hk42 hk44 hk45
  go_enter Tryd.func13, Tryd.ntmps13
  go_wp2_with (go_at_call 21; (with_reducible refine (Hb1.out _ HB.out).mono ?_); rintro e w_b1 ⟨rfl, r_b1, rfl⟩; have HB_b1 := hidden (HB.out.trans ((drew_below ⟨r_b1, rfl⟩).mono HB.out.size)); clear Hb1)
  go_ret
  exact ⟨by rw [HS.out]; rfl, HB_b1.out⟩
set_option maxHeartbeats 1600000 in
set_option maxRecDepth 100000 in
theorem rsame_any (x y : Pv) (C D : Pc) (w : World) (hx : PvRd w x C) (hy : PvRd w y D) :
    Calls Tryd.prog 13 #[(.agg #[.int .i64 x.t, .slice x.pr.p x.pr.n x.pr.c, .int .i64 x.eg, .slice x.ed.p x.ed.n x.ed.c, .int .i64 x.ik, .slice x.id.p x.id.n x.id.c, .int .i64 x.am, .slice x.ad.p x.ad.n x.ad.c, .int .i64 x.np, .slice x.ns.p x.ns.n x.ns.c, .int .i64 x.nt, .slice x.nd.p x.nd.n x.nd.c, .int .i64 x.dp, .slice x.ds.p x.ds.n x.ds.c, .slice x.se.p x.se.n x.se.c, .slice x.da.p x.da.n x.da.c]), (.agg #[.int .i64 y.t, .slice y.pr.p y.pr.n y.pr.c, .int .i64 y.eg, .slice y.ed.p y.ed.n y.ed.c, .int .i64 y.ik, .slice y.id.p y.id.n y.id.c, .int .i64 y.am, .slice y.ad.p y.ad.n y.ad.c, .int .i64 y.np, .slice y.ns.p y.ns.n y.ns.c, .int .i64 y.nt, .slice y.nd.p y.nd.n y.nd.c, .int .i64 y.dp, .slice y.ds.p y.ds.n y.ds.c, .slice y.se.p y.se.n y.se.c, .slice y.da.p y.da.n y.da.c])] w fun e w' => e = .returned (.bool (sameV x C y D)) ∧ Below w.heap.size w w' := by
  by_cases ht : x.t = y.t
  rotate_left
  · have e0 : (x.t != y.t) = true := by simpa using ht
    have HS : Hid (sameV x C y D = false) := hidden (by unfold sameV; simp [ht])
    have HB := hidden (below2 w (.cells #[.int .i64 x.t, .slice x.pr.p x.pr.n x.pr.c, .int .i64 x.eg, .slice x.ed.p x.ed.n x.ed.c, .int .i64 x.ik, .slice x.id.p x.id.n x.id.c, .int .i64 x.am, .slice x.ad.p x.ad.n x.ad.c, .int .i64 x.np, .slice x.ns.p x.ns.n x.ns.c, .int .i64 x.nt, .slice x.nd.p x.nd.n x.nd.c, .int .i64 x.dp, .slice x.ds.p x.ds.n x.ds.c, .slice x.se.p x.se.n x.se.c, .slice x.da.p x.da.n x.da.c] 40) (.cells #[.int .i64 y.t, .slice y.pr.p y.pr.n y.pr.c, .int .i64 y.eg, .slice y.ed.p y.ed.n y.ed.c, .int .i64 y.ik, .slice y.id.p y.id.n y.id.c, .int .i64 y.am, .slice y.ad.p y.ad.n y.ad.c, .int .i64 y.np, .slice y.ns.p y.ns.n y.ns.c, .int .i64 y.nt, .slice y.nd.p y.nd.n y.nd.c, .int .i64 y.dp, .slice y.ds.p y.ds.n y.ds.c, .slice y.se.p y.se.n y.se.c, .slice y.da.p y.da.n y.da.c] 40))
    clear hx hy ht
    go_enter Tryd.func13, Tryd.ntmps13
    go_wp2_with fail
    go_ret
    exact ⟨by rw [HS.out]; rfl, HB.out⟩
  by_cases k33 : x.t = 33
  · have l33 : y.t = 33 := ht ▸ k33
    have := rsame33 x y C D w hx hy k33 l33
    rw [k33, l33]
    exact this
  by_cases k34 : x.t = 34
  · have l34 : y.t = 34 := ht ▸ k34
    have := rsame34 x y C D w hx hy k34 l34
    rw [k34, l34]
    exact this
  by_cases k35 : x.t = 35
  · have l35 : y.t = 35 := ht ▸ k35
    have := rsame35 x y C D w hx hy k35 l35
    rw [k35, l35]
    exact this
  by_cases k36 : x.t = 36
  · have l36 : y.t = 36 := ht ▸ k36
    have := rsame36 x y C D w hx hy k36 l36
    rw [k36, l36]
    exact this
  by_cases k39 : x.t = 39
  · have l39 : y.t = 39 := ht ▸ k39
    have := rsame39 x y C D w hx hy k39 l39
    rw [k39, l39]
    exact this
  by_cases k41 : x.t = 41
  · have l41 : y.t = 41 := ht ▸ k41
    have := rsame41 x y C D w hx hy k41 l41
    rw [k41, l41]
    exact this
  by_cases k42 : x.t = 42
  · have l42 : y.t = 42 := ht ▸ k42
    have := rsame42 x y C D w hx hy k42 l42
    rw [k42, l42]
    exact this
  by_cases k44 : x.t = 44
  · have l44 : y.t = 44 := ht ▸ k44
    have := rsame44 x y C D w hx hy k44 l44
    rw [k44, l44]
    exact this
  by_cases k45 : x.t = 45
  · have l45 : y.t = 45 := ht ▸ k45
    have := rsame45 x y C D w hx hy k45 l45
    rw [k45, l45]
    exact this
  have := rsameX x y C D w hx hy x.t rfl ht.symm k33 k34 k35 k36 k39 k41 k42 k44 k45
  rw [← ht]
  exact this
end Go.Proofs.YtpocehpejbnemaaDoor
