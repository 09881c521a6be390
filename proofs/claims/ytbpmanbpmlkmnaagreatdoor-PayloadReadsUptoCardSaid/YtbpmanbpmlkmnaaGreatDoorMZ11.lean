/-
  Which payloads are the same, where only the part that the type needs can be read.
  Package payload's reader of authentications.
-/
import Derived.Test.YtbpmanbpmlkmnaaGreatDoorMPayEq4
import Derived.Test.YtbpmanbpmlkmnaaGreatDoorMPayIdent
namespace Go.Proofs.YtbpmanbpmlkmnaaGreatDoor
open Go.RowKit
set_option linter.unusedVariables false

structure R33 (w : World) (x : Pv) (C : Pc) : Prop where
  pr : RdG KPr DPr w x.pr.p x.pr.n x.pr.c C.pr
structure R34 (w : World) (x : Pv) (C : Pc) : Prop where
  ed : Byt w x.ed.p x.ed.n x.ed.c C.ed
structure R35 (w : World) (x : Pv) (C : Pc) : Prop where
  id : Byt w x.id.p x.id.n x.id.c C.id
structure R39 (w : World) (x : Pv) (C : Pc) : Prop where
  ad : Byt w x.ad.p x.ad.n x.ad.c C.ad
structure R41 (w : World) (x : Pv) (C : Pc) : Prop where
  ns : Byt w x.ns.p x.ns.n x.ns.c C.ns
  nd : Byt w x.nd.p x.nd.n x.nd.c C.nd
structure R42 (w : World) (x : Pv) (C : Pc) : Prop where
  ds : RdG KSb DSb w x.ds.p x.ds.n x.ds.c C.ds
structure R44 (w : World) (x : Pv) (C : Pc) : Prop where
  se : RdG KSl DSlr w x.se.p x.se.n x.se.c C.se
structure RX (w : World) (x : Pv) (C : Pc) : Prop where
  da : Byt w x.da.p x.da.n x.da.c C.da
/-- The part of a payload that its type needs can be read. -/
structure PvRk (w : World) (x : Pv) (C : Pc) : Prop where
  a33 : x.t = 33 → R33 w x C
  a34 : x.t = 34 → R34 w x C
  a35 : x.t = 35 → R35 w x C
  a36 : x.t = 36 → R35 w x C
  a39 : x.t = 39 → R39 w x C
  a41 : x.t = 41 → R41 w x C
  a42 : x.t = 42 → R42 w x C
  a44 : x.t = 44 → R44 w x C
  a45 : x.t = 45 → R44 w x C
  aX : x.t ≠ 33 → x.t ≠ 34 → x.t ≠ 35 → x.t ≠ 36 → x.t ≠ 39 → x.t ≠ 41 → x.t ≠ 42 → x.t ≠ 44 → x.t ≠ 45 → RX w x C
theorem PvRd.rk {w : World} {x : Pv} {C : Pc} (h : PvRd w x C) : PvRk w x C :=
  ⟨fun _ => ⟨h.pr⟩, fun _ => ⟨h.ed⟩, fun _ => ⟨h.id⟩, fun _ => ⟨h.id⟩, fun _ => ⟨h.ad⟩, fun _ => ⟨h.ns, h.nd⟩, fun _ => ⟨h.ds⟩, fun _ => ⟨h.se⟩, fun _ => ⟨h.se⟩, fun _ _ _ _ _ _ _ _ _ => ⟨h.da⟩⟩
theorem PvRk.below {w w' : World} {x : Pv} {C : Pc} (h : PvRk w x C) (hb : Below w.heap.size w w') : PvRk w' x C :=
  ⟨fun e => ⟨(h.a33 e).pr.below hb⟩, fun e => ⟨(h.a34 e).ed.below hb⟩, fun e => ⟨(h.a35 e).id.below hb⟩, fun e => ⟨(h.a36 e).id.below hb⟩, fun e => ⟨(h.a39 e).ad.below hb⟩, fun e => ⟨(h.a41 e).ns.below hb, (h.a41 e).nd.below hb⟩, fun e => ⟨(h.a42 e).ds.below hb⟩, fun e => ⟨(h.a44 e).se.below hb⟩, fun e => ⟨(h.a45 e).se.below hb⟩, fun e1 e2 e3 e4 e5 e6 e7 e8 e9 => ⟨(h.aX e1 e2 e3 e4 e5 e6 e7 e8 e9).da.below hb⟩⟩
set_option maxHeartbeats 1600000 in
set_option maxRecDepth 100000 in
theorem krsame33 (x y : Pv) (C D : Pc) (w : World) (hx0 : PvRk w x C) (hy0 : PvRk w y D) (hk : x.t = 33) (hl : y.t = 33) :
    Calls Tryz.prog 12 #[.agg #[.int .i64 33, .slice x.pr.p x.pr.n x.pr.c, .int .i64 x.eg, .slice x.ed.p x.ed.n x.ed.c, .int .i64 x.ik, .slice x.id.p x.id.n x.id.c, .int .i64 x.am, .slice x.ad.p x.ad.n x.ad.c, .int .i64 x.np, .slice x.ns.p x.ns.n x.ns.c, .int .i64 x.nt, .slice x.nd.p x.nd.n x.nd.c, .int .i64 x.dp, .slice x.ds.p x.ds.n x.ds.c, .slice x.se.p x.se.n x.se.c, .slice x.da.p x.da.n x.da.c], .agg #[.int .i64 33, .slice y.pr.p y.pr.n y.pr.c, .int .i64 y.eg, .slice y.ed.p y.ed.n y.ed.c, .int .i64 y.ik, .slice y.id.p y.id.n y.id.c, .int .i64 y.am, .slice y.ad.p y.ad.n y.ad.c, .int .i64 y.np, .slice y.ns.p y.ns.n y.ns.c, .int .i64 y.nt, .slice y.nd.p y.nd.n y.nd.c, .int .i64 y.dp, .slice y.ds.p y.ds.n y.ds.c, .slice y.se.p y.se.n y.se.c, .slice y.da.p y.da.n y.da.c]] w fun e w' => e = .returned (.bool (sameV x C y D)) ∧ Below w.heap.size w w' := by
  have hx := hx0.a33 hk
  have hy := hy0.a33 hl
  clear hx0 hy0
  have HB := hidden (below2 w (.cells #[.int .i64 33, .slice x.pr.p x.pr.n x.pr.c, .int .i64 x.eg, .slice x.ed.p x.ed.n x.ed.c, .int .i64 x.ik, .slice x.id.p x.id.n x.id.c, .int .i64 x.am, .slice x.ad.p x.ad.n x.ad.c, .int .i64 x.np, .slice x.ns.p x.ns.n x.ns.c, .int .i64 x.nt, .slice x.nd.p x.nd.n x.nd.c, .int .i64 x.dp, .slice x.ds.p x.ds.n x.ds.c, .slice x.se.p x.se.n x.se.c, .slice x.da.p x.da.n x.da.c] 45) (.cells #[.int .i64 33, .slice y.pr.p y.pr.n y.pr.c, .int .i64 y.eg, .slice y.ed.p y.ed.n y.ed.c, .int .i64 y.ik, .slice y.id.p y.id.n y.id.c, .int .i64 y.am, .slice y.ad.p y.ad.n y.ad.c, .int .i64 y.np, .slice y.ns.p y.ns.n y.ns.c, .int .i64 y.nt, .slice y.nd.p y.nd.n y.nd.c, .int .i64 y.dp, .slice y.ds.p y.ds.n y.ds.c, .slice y.se.p y.se.n y.se.c, .slice y.da.p y.da.n y.da.c] 45))
  have HS : Hid (sameV x C y D = decide (C.pr.map PrP.pr = D.pr.map PrP.pr)) := hidden (by unfold sameV; simp [hk, hl])
  have HE := hidden (same4_any _ _ _ _ _ _ _ _ _ (hx.pr.below HB.out) (hy.pr.below HB.out))
  clear hx hy hk hl
  go_enter Tryz.func12, Tryz.ntmps12
  go_wp2_with (go_at_call 27; (with_reducible refine (HE.out).mono ?_); rintro e w1 ⟨rfl, hb⟩; have HB2 := hidden (HB.out.trans (hb.mono HB.out.size)); clear hb)
  go_ret
  exact ⟨by rw [HS.out]; rfl, HB2.out⟩
set_option maxHeartbeats 1600000 in
set_option maxRecDepth 100000 in
theorem krsame34 (x y : Pv) (C D : Pc) (w : World) (hx0 : PvRk w x C) (hy0 : PvRk w y D) (hk : x.t = 34) (hl : y.t = 34) :
    Calls Tryz.prog 12 #[.agg #[.int .i64 34, .slice x.pr.p x.pr.n x.pr.c, .int .i64 x.eg, .slice x.ed.p x.ed.n x.ed.c, .int .i64 x.ik, .slice x.id.p x.id.n x.id.c, .int .i64 x.am, .slice x.ad.p x.ad.n x.ad.c, .int .i64 x.np, .slice x.ns.p x.ns.n x.ns.c, .int .i64 x.nt, .slice x.nd.p x.nd.n x.nd.c, .int .i64 x.dp, .slice x.ds.p x.ds.n x.ds.c, .slice x.se.p x.se.n x.se.c, .slice x.da.p x.da.n x.da.c], .agg #[.int .i64 34, .slice y.pr.p y.pr.n y.pr.c, .int .i64 y.eg, .slice y.ed.p y.ed.n y.ed.c, .int .i64 y.ik, .slice y.id.p y.id.n y.id.c, .int .i64 y.am, .slice y.ad.p y.ad.n y.ad.c, .int .i64 y.np, .slice y.ns.p y.ns.n y.ns.c, .int .i64 y.nt, .slice y.nd.p y.nd.n y.nd.c, .int .i64 y.dp, .slice y.ds.p y.ds.n y.ds.c, .slice y.se.p y.se.n y.se.c, .slice y.da.p y.da.n y.da.c]] w fun e w' => e = .returned (.bool (sameV x C y D)) ∧ Below w.heap.size w w' := by
  have hx := hx0.a34 hk
  have hy := hy0.a34 hl
  clear hx0 hy0
  have HB := hidden (below2 w (.cells #[.int .i64 34, .slice x.pr.p x.pr.n x.pr.c, .int .i64 x.eg, .slice x.ed.p x.ed.n x.ed.c, .int .i64 x.ik, .slice x.id.p x.id.n x.id.c, .int .i64 x.am, .slice x.ad.p x.ad.n x.ad.c, .int .i64 x.np, .slice x.ns.p x.ns.n x.ns.c, .int .i64 x.nt, .slice x.nd.p x.nd.n x.nd.c, .int .i64 x.dp, .slice x.ds.p x.ds.n x.ds.c, .slice x.se.p x.se.n x.se.c, .slice x.da.p x.da.n x.da.c] 45) (.cells #[.int .i64 34, .slice y.pr.p y.pr.n y.pr.c, .int .i64 y.eg, .slice y.ed.p y.ed.n y.ed.c, .int .i64 y.ik, .slice y.id.p y.id.n y.id.c, .int .i64 y.am, .slice y.ad.p y.ad.n y.ad.c, .int .i64 y.np, .slice y.ns.p y.ns.n y.ns.c, .int .i64 y.nt, .slice y.nd.p y.nd.n y.nd.c, .int .i64 y.dp, .slice y.ds.p y.ds.n y.ds.c, .slice y.se.p y.se.n y.se.c, .slice y.da.p y.da.n y.da.c] 45))
  obtain ⟨b1, hb1⟩ : ∃ b, decide (C.ed = D.ed) = b := ⟨_, rfl⟩
  have Hb1 := hidden (fun W (hb : Below w.heap.size w W) => requal_any _ _ _ _ _ _ _ _ W (hx.ed.below hb) (hy.ed.below hb))
  rw [hb1] at Hb1
  by_cases h1 : x.eg = y.eg
  rotate_left
  · have e1 : (x.eg == y.eg) = false := by simpa using h1
    have HS : Hid (sameV x C y D = false) := hidden (by unfold sameV; simp [hk, hl, h1])
    clear hx hy hb1 h1 hk hl
    go_enter Tryz.func12, Tryz.ntmps12
    go_wp2_with fail
    go_ret
    exact ⟨by rw [HS.out]; rfl, HB.out⟩
  have e1 : (x.eg == y.eg) = true := by simpa using h1
  have HS : Hid (sameV x C y D = b1) := hidden (by rw [← hb1]; unfold sameV; simp [hk, hl, h1])
  clear hx hy hb1 h1 hk hl
  go_enter Tryz.func12, Tryz.ntmps12
  go_wp2_with (go_at_call 14; (with_reducible refine (Hb1.out _ HB.out).mono ?_); rintro e w_b1 ⟨rfl, r_b1, rfl⟩; have HB_b1 := hidden (HB.out.trans ((drew_below ⟨r_b1, rfl⟩).mono HB.out.size)); clear Hb1)
  go_ret
  exact ⟨by rw [HS.out]; rfl, HB_b1.out⟩
set_option maxHeartbeats 1600000 in
set_option maxRecDepth 100000 in
theorem krsame35 (x y : Pv) (C D : Pc) (w : World) (hx0 : PvRk w x C) (hy0 : PvRk w y D) (hk : x.t = 35) (hl : y.t = 35) :
    Calls Tryz.prog 12 #[.agg #[.int .i64 35, .slice x.pr.p x.pr.n x.pr.c, .int .i64 x.eg, .slice x.ed.p x.ed.n x.ed.c, .int .i64 x.ik, .slice x.id.p x.id.n x.id.c, .int .i64 x.am, .slice x.ad.p x.ad.n x.ad.c, .int .i64 x.np, .slice x.ns.p x.ns.n x.ns.c, .int .i64 x.nt, .slice x.nd.p x.nd.n x.nd.c, .int .i64 x.dp, .slice x.ds.p x.ds.n x.ds.c, .slice x.se.p x.se.n x.se.c, .slice x.da.p x.da.n x.da.c], .agg #[.int .i64 35, .slice y.pr.p y.pr.n y.pr.c, .int .i64 y.eg, .slice y.ed.p y.ed.n y.ed.c, .int .i64 y.ik, .slice y.id.p y.id.n y.id.c, .int .i64 y.am, .slice y.ad.p y.ad.n y.ad.c, .int .i64 y.np, .slice y.ns.p y.ns.n y.ns.c, .int .i64 y.nt, .slice y.nd.p y.nd.n y.nd.c, .int .i64 y.dp, .slice y.ds.p y.ds.n y.ds.c, .slice y.se.p y.se.n y.se.c, .slice y.da.p y.da.n y.da.c]] w fun e w' => e = .returned (.bool (sameV x C y D)) ∧ Below w.heap.size w w' := by
  have hx := hx0.a35 hk
  have hy := hy0.a35 hl
  clear hx0 hy0
  have HB := hidden (below2 w (.cells #[.int .i64 35, .slice x.pr.p x.pr.n x.pr.c, .int .i64 x.eg, .slice x.ed.p x.ed.n x.ed.c, .int .i64 x.ik, .slice x.id.p x.id.n x.id.c, .int .i64 x.am, .slice x.ad.p x.ad.n x.ad.c, .int .i64 x.np, .slice x.ns.p x.ns.n x.ns.c, .int .i64 x.nt, .slice x.nd.p x.nd.n x.nd.c, .int .i64 x.dp, .slice x.ds.p x.ds.n x.ds.c, .slice x.se.p x.se.n x.se.c, .slice x.da.p x.da.n x.da.c] 45) (.cells #[.int .i64 35, .slice y.pr.p y.pr.n y.pr.c, .int .i64 y.eg, .slice y.ed.p y.ed.n y.ed.c, .int .i64 y.ik, .slice y.id.p y.id.n y.id.c, .int .i64 y.am, .slice y.ad.p y.ad.n y.ad.c, .int .i64 y.np, .slice y.ns.p y.ns.n y.ns.c, .int .i64 y.nt, .slice y.nd.p y.nd.n y.nd.c, .int .i64 y.dp, .slice y.ds.p y.ds.n y.ds.c, .slice y.se.p y.se.n y.se.c, .slice y.da.p y.da.n y.da.c] 45))
  obtain ⟨b1, hb1⟩ : ∃ b, decide (C.id = D.id) = b := ⟨_, rfl⟩
  have Hb1 := hidden (fun W (hb : Below w.heap.size w W) => requal_any _ _ _ _ _ _ _ _ W (hx.id.below hb) (hy.id.below hb))
  rw [hb1] at Hb1
  by_cases h1 : x.ik = y.ik
  rotate_left
  · have e1 : (x.ik == y.ik) = false := by simpa using h1
    have HS : Hid (sameV x C y D = false) := hidden (by unfold sameV; simp [hk, hl, h1])
    clear hx hy hb1 h1 hk hl
    go_enter Tryz.func12, Tryz.ntmps12
    go_wp2_with fail
    go_ret
    exact ⟨by rw [HS.out]; rfl, HB.out⟩
  have e1 : (x.ik == y.ik) = true := by simpa using h1
  have HS : Hid (sameV x C y D = b1) := hidden (by rw [← hb1]; unfold sameV; simp [hk, hl, h1])
  clear hx hy hb1 h1 hk hl
  go_enter Tryz.func12, Tryz.ntmps12
  go_wp2_with (go_at_call 14; (with_reducible refine (Hb1.out _ HB.out).mono ?_); rintro e w_b1 ⟨rfl, r_b1, rfl⟩; have HB_b1 := hidden (HB.out.trans ((drew_below ⟨r_b1, rfl⟩).mono HB.out.size)); clear Hb1)
  go_ret
  exact ⟨by rw [HS.out]; rfl, HB_b1.out⟩
set_option maxHeartbeats 1600000 in
set_option maxRecDepth 100000 in
theorem krsame36 (x y : Pv) (C D : Pc) (w : World) (hx0 : PvRk w x C) (hy0 : PvRk w y D) (hk : x.t = 36) (hl : y.t = 36) :
    Calls Tryz.prog 12 #[.agg #[.int .i64 36, .slice x.pr.p x.pr.n x.pr.c, .int .i64 x.eg, .slice x.ed.p x.ed.n x.ed.c, .int .i64 x.ik, .slice x.id.p x.id.n x.id.c, .int .i64 x.am, .slice x.ad.p x.ad.n x.ad.c, .int .i64 x.np, .slice x.ns.p x.ns.n x.ns.c, .int .i64 x.nt, .slice x.nd.p x.nd.n x.nd.c, .int .i64 x.dp, .slice x.ds.p x.ds.n x.ds.c, .slice x.se.p x.se.n x.se.c, .slice x.da.p x.da.n x.da.c], .agg #[.int .i64 36, .slice y.pr.p y.pr.n y.pr.c, .int .i64 y.eg, .slice y.ed.p y.ed.n y.ed.c, .int .i64 y.ik, .slice y.id.p y.id.n y.id.c, .int .i64 y.am, .slice y.ad.p y.ad.n y.ad.c, .int .i64 y.np, .slice y.ns.p y.ns.n y.ns.c, .int .i64 y.nt, .slice y.nd.p y.nd.n y.nd.c, .int .i64 y.dp, .slice y.ds.p y.ds.n y.ds.c, .slice y.se.p y.se.n y.se.c, .slice y.da.p y.da.n y.da.c]] w fun e w' => e = .returned (.bool (sameV x C y D)) ∧ Below w.heap.size w w' := by
  have hx := hx0.a36 hk
  have hy := hy0.a36 hl
  clear hx0 hy0
  have HB := hidden (below2 w (.cells #[.int .i64 36, .slice x.pr.p x.pr.n x.pr.c, .int .i64 x.eg, .slice x.ed.p x.ed.n x.ed.c, .int .i64 x.ik, .slice x.id.p x.id.n x.id.c, .int .i64 x.am, .slice x.ad.p x.ad.n x.ad.c, .int .i64 x.np, .slice x.ns.p x.ns.n x.ns.c, .int .i64 x.nt, .slice x.nd.p x.nd.n x.nd.c, .int .i64 x.dp, .slice x.ds.p x.ds.n x.ds.c, .slice x.se.p x.se.n x.se.c, .slice x.da.p x.da.n x.da.c] 45) (.cells #[.int .i64 36, .slice y.pr.p y.pr.n y.pr.c, .int .i64 y.eg, .slice y.ed.p y.ed.n y.ed.c, .int .i64 y.ik, .slice y.id.p y.id.n y.id.c, .int .i64 y.am, .slice y.ad.p y.ad.n y.ad.c, .int .i64 y.np, .slice y.ns.p y.ns.n y.ns.c, .int .i64 y.nt, .slice y.nd.p y.nd.n y.nd.c, .int .i64 y.dp, .slice y.ds.p y.ds.n y.ds.c, .slice y.se.p y.se.n y.se.c, .slice y.da.p y.da.n y.da.c] 45))
  obtain ⟨b1, hb1⟩ : ∃ b, decide (C.id = D.id) = b := ⟨_, rfl⟩
  have Hb1 := hidden (fun W (hb : Below w.heap.size w W) => requal_any _ _ _ _ _ _ _ _ W (hx.id.below hb) (hy.id.below hb))
  rw [hb1] at Hb1
  by_cases h1 : x.ik = y.ik
  rotate_left
  · have e1 : (x.ik == y.ik) = false := by simpa using h1
    have HS : Hid (sameV x C y D = false) := hidden (by unfold sameV; simp [hk, hl, h1])
    clear hx hy hb1 h1 hk hl
    go_enter Tryz.func12, Tryz.ntmps12
    go_wp2_with fail
    go_ret
    exact ⟨by rw [HS.out]; rfl, HB.out⟩
  have e1 : (x.ik == y.ik) = true := by simpa using h1
  have HS : Hid (sameV x C y D = b1) := hidden (by rw [← hb1]; unfold sameV; simp [hk, hl, h1])
  clear hx hy hb1 h1 hk hl
  go_enter Tryz.func12, Tryz.ntmps12
  go_wp2_with (go_at_call 14; (with_reducible refine (Hb1.out _ HB.out).mono ?_); rintro e w_b1 ⟨rfl, r_b1, rfl⟩; have HB_b1 := hidden (HB.out.trans ((drew_below ⟨r_b1, rfl⟩).mono HB.out.size)); clear Hb1)
  go_ret
  exact ⟨by rw [HS.out]; rfl, HB_b1.out⟩
set_option maxHeartbeats 1600000 in
set_option maxRecDepth 100000 in
theorem krsame39 (x y : Pv) (C D : Pc) (w : World) (hx0 : PvRk w x C) (hy0 : PvRk w y D) (hk : x.t = 39) (hl : y.t = 39) :
    Calls Tryz.prog 12 #[.agg #[.int .i64 39, .slice x.pr.p x.pr.n x.pr.c, .int .i64 x.eg, .slice x.ed.p x.ed.n x.ed.c, .int .i64 x.ik, .slice x.id.p x.id.n x.id.c, .int .i64 x.am, .slice x.ad.p x.ad.n x.ad.c, .int .i64 x.np, .slice x.ns.p x.ns.n x.ns.c, .int .i64 x.nt, .slice x.nd.p x.nd.n x.nd.c, .int .i64 x.dp, .slice x.ds.p x.ds.n x.ds.c, .slice x.se.p x.se.n x.se.c, .slice x.da.p x.da.n x.da.c], .agg #[.int .i64 39, .slice y.pr.p y.pr.n y.pr.c, .int .i64 y.eg, .slice y.ed.p y.ed.n y.ed.c, .int .i64 y.ik, .slice y.id.p y.id.n y.id.c, .int .i64 y.am, .slice y.ad.p y.ad.n y.ad.c, .int .i64 y.np, .slice y.ns.p y.ns.n y.ns.c, .int .i64 y.nt, .slice y.nd.p y.nd.n y.nd.c, .int .i64 y.dp, .slice y.ds.p y.ds.n y.ds.c, .slice y.se.p y.se.n y.se.c, .slice y.da.p y.da.n y.da.c]] w fun e w' => e = .returned (.bool (sameV x C y D)) ∧ Below w.heap.size w w' := by
  have hx := hx0.a39 hk
  have hy := hy0.a39 hl
  clear hx0 hy0
  have HB := hidden (below2 w (.cells #[.int .i64 39, .slice x.pr.p x.pr.n x.pr.c, .int .i64 x.eg, .slice x.ed.p x.ed.n x.ed.c, .int .i64 x.ik, .slice x.id.p x.id.n x.id.c, .int .i64 x.am, .slice x.ad.p x.ad.n x.ad.c, .int .i64 x.np, .slice x.ns.p x.ns.n x.ns.c, .int .i64 x.nt, .slice x.nd.p x.nd.n x.nd.c, .int .i64 x.dp, .slice x.ds.p x.ds.n x.ds.c, .slice x.se.p x.se.n x.se.c, .slice x.da.p x.da.n x.da.c] 45) (.cells #[.int .i64 39, .slice y.pr.p y.pr.n y.pr.c, .int .i64 y.eg, .slice y.ed.p y.ed.n y.ed.c, .int .i64 y.ik, .slice y.id.p y.id.n y.id.c, .int .i64 y.am, .slice y.ad.p y.ad.n y.ad.c, .int .i64 y.np, .slice y.ns.p y.ns.n y.ns.c, .int .i64 y.nt, .slice y.nd.p y.nd.n y.nd.c, .int .i64 y.dp, .slice y.ds.p y.ds.n y.ds.c, .slice y.se.p y.se.n y.se.c, .slice y.da.p y.da.n y.da.c] 45))
  obtain ⟨b1, hb1⟩ : ∃ b, decide (C.ad = D.ad) = b := ⟨_, rfl⟩
  have Hb1 := hidden (fun W (hb : Below w.heap.size w W) => requal_any _ _ _ _ _ _ _ _ W (hx.ad.below hb) (hy.ad.below hb))
  rw [hb1] at Hb1
  by_cases h1 : x.am = y.am
  rotate_left
  · have e1 : (x.am == y.am) = false := by simpa using h1
    have HS : Hid (sameV x C y D = false) := hidden (by unfold sameV; simp [hk, hl, h1])
    clear hx hy hb1 h1 hk hl
    go_enter Tryz.func12, Tryz.ntmps12
    go_wp2_with fail
    go_ret
    exact ⟨by rw [HS.out]; rfl, HB.out⟩
  have e1 : (x.am == y.am) = true := by simpa using h1
  have HS : Hid (sameV x C y D = b1) := hidden (by rw [← hb1]; unfold sameV; simp [hk, hl, h1])
  clear hx hy hb1 h1 hk hl
  go_enter Tryz.func12, Tryz.ntmps12
  go_wp2_with (go_at_call 14; (with_reducible refine (Hb1.out _ HB.out).mono ?_); rintro e w_b1 ⟨rfl, r_b1, rfl⟩; have HB_b1 := hidden (HB.out.trans ((drew_below ⟨r_b1, rfl⟩).mono HB.out.size)); clear Hb1)
  go_ret
  exact ⟨by rw [HS.out]; rfl, HB_b1.out⟩
set_option maxHeartbeats 1600000 in
set_option maxRecDepth 100000 in
theorem krsame41 (x y : Pv) (C D : Pc) (w : World) (hx0 : PvRk w x C) (hy0 : PvRk w y D) (hk : x.t = 41) (hl : y.t = 41) :
    Calls Tryz.prog 12 #[.agg #[.int .i64 41, .slice x.pr.p x.pr.n x.pr.c, .int .i64 x.eg, .slice x.ed.p x.ed.n x.ed.c, .int .i64 x.ik, .slice x.id.p x.id.n x.id.c, .int .i64 x.am, .slice x.ad.p x.ad.n x.ad.c, .int .i64 x.np, .slice x.ns.p x.ns.n x.ns.c, .int .i64 x.nt, .slice x.nd.p x.nd.n x.nd.c, .int .i64 x.dp, .slice x.ds.p x.ds.n x.ds.c, .slice x.se.p x.se.n x.se.c, .slice x.da.p x.da.n x.da.c], .agg #[.int .i64 41, .slice y.pr.p y.pr.n y.pr.c, .int .i64 y.eg, .slice y.ed.p y.ed.n y.ed.c, .int .i64 y.ik, .slice y.id.p y.id.n y.id.c, .int .i64 y.am, .slice y.ad.p y.ad.n y.ad.c, .int .i64 y.np, .slice y.ns.p y.ns.n y.ns.c, .int .i64 y.nt, .slice y.nd.p y.nd.n y.nd.c, .int .i64 y.dp, .slice y.ds.p y.ds.n y.ds.c, .slice y.se.p y.se.n y.se.c, .slice y.da.p y.da.n y.da.c]] w fun e w' => e = .returned (.bool (sameV x C y D)) ∧ Below w.heap.size w w' := by
  have hx := hx0.a41 hk
  have hy := hy0.a41 hl
  clear hx0 hy0
  have HB := hidden (below2 w (.cells #[.int .i64 41, .slice x.pr.p x.pr.n x.pr.c, .int .i64 x.eg, .slice x.ed.p x.ed.n x.ed.c, .int .i64 x.ik, .slice x.id.p x.id.n x.id.c, .int .i64 x.am, .slice x.ad.p x.ad.n x.ad.c, .int .i64 x.np, .slice x.ns.p x.ns.n x.ns.c, .int .i64 x.nt, .slice x.nd.p x.nd.n x.nd.c, .int .i64 x.dp, .slice x.ds.p x.ds.n x.ds.c, .slice x.se.p x.se.n x.se.c, .slice x.da.p x.da.n x.da.c] 45) (.cells #[.int .i64 41, .slice y.pr.p y.pr.n y.pr.c, .int .i64 y.eg, .slice y.ed.p y.ed.n y.ed.c, .int .i64 y.ik, .slice y.id.p y.id.n y.id.c, .int .i64 y.am, .slice y.ad.p y.ad.n y.ad.c, .int .i64 y.np, .slice y.ns.p y.ns.n y.ns.c, .int .i64 y.nt, .slice y.nd.p y.nd.n y.nd.c, .int .i64 y.dp, .slice y.ds.p y.ds.n y.ds.c, .slice y.se.p y.se.n y.se.c, .slice y.da.p y.da.n y.da.c] 45))
  obtain ⟨b1, hb1⟩ : ∃ b, decide (C.ns = D.ns) = b := ⟨_, rfl⟩
  have Hb1 := hidden (fun W (hb : Below w.heap.size w W) => requal_any _ _ _ _ _ _ _ _ W (hx.ns.below hb) (hy.ns.below hb))
  rw [hb1] at Hb1
  obtain ⟨b2, hb2⟩ : ∃ b, decide (C.nd = D.nd) = b := ⟨_, rfl⟩
  have Hb2 := hidden (fun W (hb : Below w.heap.size w W) => requal_any _ _ _ _ _ _ _ _ W (hx.nd.below hb) (hy.nd.below hb))
  rw [hb2] at Hb2
  by_cases h1 : x.np = y.np
  rotate_left
  · have e1 : (x.np == y.np) = false := by simpa using h1
    have HS : Hid (sameV x C y D = false) := hidden (by unfold sameV; simp [hk, hl, h1])
    clear hx hy hb1 hb2 hk hl
    clear h1
    go_enter Tryz.func12, Tryz.ntmps12
    go_wp2_with fail
    go_ret
    exact ⟨by rw [HS.out]; rfl, HB.out⟩
  have e1 : (x.np == y.np) = true := by simpa using h1
  by_cases h2 : x.nt = y.nt
  rotate_left
  · have e2 : (x.nt == y.nt) = false := by simpa using h2
    have HS : Hid (sameV x C y D = false) := hidden (by unfold sameV; simp [hk, hl, h2])
    clear hx hy hb1 hb2 hk hl
    clear h1 h2
    go_enter Tryz.func12, Tryz.ntmps12
    go_wp2_with fail
    go_ret
    exact ⟨by rw [HS.out]; rfl, HB.out⟩
  have e2 : (x.nt == y.nt) = true := by simpa using h2
  have HS : Hid (sameV x C y D = (b1 && b2)) := hidden (by rw [← hb1, ← hb2]; unfold sameV; simp [hk, hl, h1, h2])
  clear hx hy hb1 hb2 h1 h2 hk hl
  cases b1 with
  | false =>
    go_enter Tryz.func12, Tryz.ntmps12
    go_wp2_with (go_at_call 14; (with_reducible refine (Hb1.out _ HB.out).mono ?_); rintro e w_b1 ⟨rfl, r_b1, rfl⟩; have HB_b1 := hidden (HB.out.trans ((drew_below ⟨r_b1, rfl⟩).mono HB.out.size)); clear Hb1)
    go_ret
    exact ⟨by rw [HS.out]; rfl, HB_b1.out⟩
  | true =>
    go_enter Tryz.func12, Tryz.ntmps12
    go_wp2_with (first
      | (go_at_call 14; (with_reducible refine (Hb1.out _ HB.out).mono ?_); rintro e w_b1 ⟨rfl, r_b1, rfl⟩; have HB_b1 := hidden (HB.out.trans ((drew_below ⟨r_b1, rfl⟩).mono HB.out.size)); clear Hb1)
      | (go_at_call 14; (with_reducible refine (Hb2.out _ HB_b1.out).mono ?_); rintro e w_b2 ⟨rfl, r_b2, rfl⟩; have HB_b2 := hidden (HB_b1.out.trans ((drew_below ⟨r_b2, rfl⟩).mono HB_b1.out.size)); clear Hb2)
      | fail)
    go_ret
    exact ⟨by rw [HS.out]; rfl, HB.out.trans ((drew_below ⟨_, rfl⟩).mono HB.out.size)⟩
set_option maxHeartbeats 1600000 in
set_option maxRecDepth 100000 in
theorem krsame42 (x y : Pv) (C D : Pc) (w : World) (hx0 : PvRk w x C) (hy0 : PvRk w y D) (hk : x.t = 42) (hl : y.t = 42) :
    Calls Tryz.prog 12 #[.agg #[.int .i64 42, .slice x.pr.p x.pr.n x.pr.c, .int .i64 x.eg, .slice x.ed.p x.ed.n x.ed.c, .int .i64 x.ik, .slice x.id.p x.id.n x.id.c, .int .i64 x.am, .slice x.ad.p x.ad.n x.ad.c, .int .i64 x.np, .slice x.ns.p x.ns.n x.ns.c, .int .i64 x.nt, .slice x.nd.p x.nd.n x.nd.c, .int .i64 x.dp, .slice x.ds.p x.ds.n x.ds.c, .slice x.se.p x.se.n x.se.c, .slice x.da.p x.da.n x.da.c], .agg #[.int .i64 42, .slice y.pr.p y.pr.n y.pr.c, .int .i64 y.eg, .slice y.ed.p y.ed.n y.ed.c, .int .i64 y.ik, .slice y.id.p y.id.n y.id.c, .int .i64 y.am, .slice y.ad.p y.ad.n y.ad.c, .int .i64 y.np, .slice y.ns.p y.ns.n y.ns.c, .int .i64 y.nt, .slice y.nd.p y.nd.n y.nd.c, .int .i64 y.dp, .slice y.ds.p y.ds.n y.ds.c, .slice y.se.p y.se.n y.se.c, .slice y.da.p y.da.n y.da.c]] w fun e w' => e = .returned (.bool (sameV x C y D)) ∧ Below w.heap.size w w' := by
  have hx := hx0.a42 hk
  have hy := hy0.a42 hl
  clear hx0 hy0
  have HB := hidden (below2 w (.cells #[.int .i64 42, .slice x.pr.p x.pr.n x.pr.c, .int .i64 x.eg, .slice x.ed.p x.ed.n x.ed.c, .int .i64 x.ik, .slice x.id.p x.id.n x.id.c, .int .i64 x.am, .slice x.ad.p x.ad.n x.ad.c, .int .i64 x.np, .slice x.ns.p x.ns.n x.ns.c, .int .i64 x.nt, .slice x.nd.p x.nd.n x.nd.c, .int .i64 x.dp, .slice x.ds.p x.ds.n x.ds.c, .slice x.se.p x.se.n x.se.c, .slice x.da.p x.da.n x.da.c] 45) (.cells #[.int .i64 42, .slice y.pr.p y.pr.n y.pr.c, .int .i64 y.eg, .slice y.ed.p y.ed.n y.ed.c, .int .i64 y.ik, .slice y.id.p y.id.n y.id.c, .int .i64 y.am, .slice y.ad.p y.ad.n y.ad.c, .int .i64 y.np, .slice y.ns.p y.ns.n y.ns.c, .int .i64 y.nt, .slice y.nd.p y.nd.n y.nd.c, .int .i64 y.dp, .slice y.ds.p y.ds.n y.ds.c, .slice y.se.p y.se.n y.se.c, .slice y.da.p y.da.n y.da.c] 45))
  by_cases h1 : x.dp = y.dp
  rotate_left
  · have e1 : (x.dp != y.dp) = true := by simpa using h1
    have HS : Hid (sameV x C y D = false) := hidden (by unfold sameV; simp [hk, hl, h1])
    clear hx hy h1 hk hl
    go_enter Tryz.func12, Tryz.ntmps12
    go_wp2_with fail
    go_ret
    exact ⟨by rw [HS.out]; rfl, HB.out⟩
  have HS : Hid (sameV x C y D = decide (C.ds.map Sb.xs = D.ds.map Sb.xs)) := hidden (by unfold sameV; simp [hk, hl, h1])
  have e1 : (x.dp != y.dp) = false := by simpa using h1
  have H := hidden (hx.ds.below HB.out)
  have K := hidden (hy.ds.below HB.out)
  have hn := hx.ds.le
  have hm := hy.ds.le
  have HL : Hid ((C.ds.map Sb.xs).length = x.ds.n) := hidden (by rw [List.length_map, hx.ds.len])
  have KL : Hid ((D.ds.map Sb.xs).length = y.ds.n) := hidden (by rw [List.length_map, hy.ds.len])
  clear hx hy h1 hk hl
  by_cases hnm : x.ds.n = y.ds.n
  rotate_left
  · have hne : ((x.ds.n : Int) != (y.ds.n : Int)) = true := by simp; omega
    have hd := decide_eq_false (differ_len HL.out KL.out hnm)
    clear hnm
    go_enter Tryz.func12, Tryz.ntmps12
    go_wp2
    go_ret
    exact ⟨by rw [HS.out, hd]; rfl, HB.out⟩
  have hne : ((x.ds.n : Int) != (y.ds.n : Int)) = false := by simp; omega
  have HNM := hidden hnm
  have KL2 : Hid ((D.ds.map Sb.xs).length = x.ds.n) := hidden (by rw [KL.out, hnm])
  clear hnm
  go_enter Tryz.func12, Tryz.ntmps12
  go_wp2_with fail
  go_loopw [5] (fun i wr => ∃ j : Nat, j ≤ x.ds.n ∧ i = .int .i64 j ∧ (C.ds.map Sb.xs).take j = (D.ds.map Sb.xs).take j ∧ wr.cell? ⟨w.heap.size, 13, none⟩ = some (.slice x.ds.p x.ds.n x.ds.c) ∧ wr.cell? ⟨w.heap.size + 1, 13, none⟩ = some (.slice y.ds.p y.ds.n y.ds.c) ∧ RdG KSb DSb wr x.ds.p x.ds.n x.ds.c C.ds ∧ RdG KSb DSb wr y.ds.p y.ds.n y.ds.c D.ds ∧ Below w.heap.size w wr) (fun i _ => x.ds.n - (intOf i).toNat)
  case atStart => exact ⟨0, by omega, rfl, by simp, by go_simp, by go_simp, H.out, K.out, HB.out⟩
  case round =>
    obtain ⟨j, hj, rfl, ht, f, g, hh, hk, hbel⟩ := hrel
    have HBL := hidden hbel
    have HT := hidden ht
    have HF := hidden f
    have HG := hidden g
    have H1 := hidden hh
    have K1 := hidden hk
    clear hbel ht hh hk
    by_cases hlt : ¬ j < x.ds.n
    · obtain rfl : j = x.ds.n := by omega
      have hd := decide_eq_true (take_whole HL.out KL2.out HT.out)
      go_wp2
      go_ret
      exact ⟨by rw [HS.out, hd]; rfl, HBL.out⟩
    replace hlt : j < x.ds.n := by omega
    have hlt' : (j : Int) < x.ds.n := by omega
    have hlt2 : (j : Int) < y.ds.n := by have := HNM.out; omega
    have hja : j < C.ds.length := by rw [H.out.len]; exact hlt
    have hjb : j < D.ds.length := by have := HNM.out; rw [K.out.len]; omega
    obtain ⟨ga, hga, hc, hok⟩ := H1.out.cell j hja
    obtain ⟨gb, hgb, hc2, hok2⟩ := K1.out.cell j hjb
    rw [hga] at f
    rw [hgb] at g
    obtain ⟨u, hu⟩ : ∃ u, C.ds[j] = u := ⟨_, rfl⟩
    obtain ⟨v, hv⟩ : ∃ v, D.ds[j] = v := ⟨_, rfl⟩
    have hja' : j < (C.ds.map Sb.xs).length := by rw [List.length_map]; exact hja
    have hjb' : j < (D.ds.map Sb.xs).length := by rw [List.length_map]; exact hjb
    have HNX := hidden (fun (e : u.xs = v.xs) => take_next hja' hjb' HT.out (by rw [List.getElem_map, List.getElem_map, hu, hv, e]))
    have HDF := hidden (fun (e : u.xs ≠ v.xs) => decide_eq_false (differ_at hja' hjb' (by rw [List.getElem_map, List.getElem_map, hu, hv]; exact e)))
    rw [hu] at hc hok
    rw [hv] at hc2 hok2
    have c0 := hc 0 _ rfl
    have d0 := hc2 0 _ rfl
    simp only [KSb, Nat.add_zero, Nat.mul_one] at c0 d0
    clear hc hc2
    clear hu hv hja hjb hja' hjb' HT
    obtain ⟨b, hbd⟩ : ∃ b, decide (u.xs = v.xs) = b := ⟨_, rfl⟩
    have HQ := hidden (fun a => (requal_any u.p v.p u.n u.c v.n v.c u.xs v.xs (wr.drewN a) (Byt.keep hok (fun _ _ h => h)) (Byt.keep hok2 (fun _ _ h => h))).mono (R' := fun e w' => e = .returned (.bool b) ∧ ∃ r, w' = (wr.drewN a).drewN r) (fun e w' ⟨h1, h2⟩ => ⟨by rw [h1, hbd], h2⟩))
    have HBD := hidden hbd
    clear hok hok2 hbd
    cases b with
    | true =>
      have HN := hidden (HNX.out (of_decide_eq_true HBD.out))
      clear HNX HDF
      go_wp2
      go_quiet ((go_at_call 14; (with_reducible exact Calls.quiet_of (HQ.out _))))
      go_wp2
      go_roundw
      case rel => exact ⟨j + 1, by omega, by go_num, HN.out, cell_below (drew_below (B := wr.heap.size) ⟨_, rfl⟩) _ _ HF.out, cell_below (drew_below (B := wr.heap.size) ⟨_, rfl⟩) _ _ HG.out, H1.out.below (drew_below ⟨_, rfl⟩), K1.out.below (drew_below ⟨_, rfl⟩), HBL.out.trans (drew_below ⟨_, rfl⟩)⟩
      case measure => simp [intOf]; omega
    | false =>
      have HD := hidden (HDF.out (of_decide_eq_false HBD.out))
      clear HNX HDF
      go_wp2
      go_quiet ((go_at_call 14; (with_reducible exact Calls.quiet_of (HQ.out _))))
      go_wp2
      go_ret
      exact ⟨by rw [HS.out, HD.out]; rfl, HBL.out.trans (drew_below ⟨_, rfl⟩)⟩
set_option maxHeartbeats 1600000 in
set_option maxRecDepth 100000 in
theorem krsame44 (x y : Pv) (C D : Pc) (w : World) (hx0 : PvRk w x C) (hy0 : PvRk w y D) (hk : x.t = 44) (hl : y.t = 44) :
    Calls Tryz.prog 12 #[.agg #[.int .i64 44, .slice x.pr.p x.pr.n x.pr.c, .int .i64 x.eg, .slice x.ed.p x.ed.n x.ed.c, .int .i64 x.ik, .slice x.id.p x.id.n x.id.c, .int .i64 x.am, .slice x.ad.p x.ad.n x.ad.c, .int .i64 x.np, .slice x.ns.p x.ns.n x.ns.c, .int .i64 x.nt, .slice x.nd.p x.nd.n x.nd.c, .int .i64 x.dp, .slice x.ds.p x.ds.n x.ds.c, .slice x.se.p x.se.n x.se.c, .slice x.da.p x.da.n x.da.c], .agg #[.int .i64 44, .slice y.pr.p y.pr.n y.pr.c, .int .i64 y.eg, .slice y.ed.p y.ed.n y.ed.c, .int .i64 y.ik, .slice y.id.p y.id.n y.id.c, .int .i64 y.am, .slice y.ad.p y.ad.n y.ad.c, .int .i64 y.np, .slice y.ns.p y.ns.n y.ns.c, .int .i64 y.nt, .slice y.nd.p y.nd.n y.nd.c, .int .i64 y.dp, .slice y.ds.p y.ds.n y.ds.c, .slice y.se.p y.se.n y.se.c, .slice y.da.p y.da.n y.da.c]] w fun e w' => e = .returned (.bool (sameV x C y D)) ∧ Below w.heap.size w w' := by
  have hx := hx0.a44 hk
  have hy := hy0.a44 hl
  clear hx0 hy0
  have HB := hidden (below2 w (.cells #[.int .i64 44, .slice x.pr.p x.pr.n x.pr.c, .int .i64 x.eg, .slice x.ed.p x.ed.n x.ed.c, .int .i64 x.ik, .slice x.id.p x.id.n x.id.c, .int .i64 x.am, .slice x.ad.p x.ad.n x.ad.c, .int .i64 x.np, .slice x.ns.p x.ns.n x.ns.c, .int .i64 x.nt, .slice x.nd.p x.nd.n x.nd.c, .int .i64 x.dp, .slice x.ds.p x.ds.n x.ds.c, .slice x.se.p x.se.n x.se.c, .slice x.da.p x.da.n x.da.c] 45) (.cells #[.int .i64 44, .slice y.pr.p y.pr.n y.pr.c, .int .i64 y.eg, .slice y.ed.p y.ed.n y.ed.c, .int .i64 y.ik, .slice y.id.p y.id.n y.id.c, .int .i64 y.am, .slice y.ad.p y.ad.n y.ad.c, .int .i64 y.np, .slice y.ns.p y.ns.n y.ns.c, .int .i64 y.nt, .slice y.nd.p y.nd.n y.nd.c, .int .i64 y.dp, .slice y.ds.p y.ds.n y.ds.c, .slice y.se.p y.se.n y.se.c, .slice y.da.p y.da.n y.da.c] 45))
  have HS : Hid (sameV x C y D = decide (C.se = D.se)) := hidden (by unfold sameV; simp [hk, hl])
  have HE := hidden (same5_any _ _ _ _ _ _ _ _ _ (hx.se.below HB.out) (hy.se.below HB.out))
  clear hx hy hk hl
  go_enter Tryz.func12, Tryz.ntmps12
  go_wp2_with (go_at_call 28; (with_reducible refine (HE.out).mono ?_); rintro e w1 ⟨rfl, hb⟩; have HB2 := hidden (HB.out.trans (hb.mono HB.out.size)); clear hb)
  go_ret
  exact ⟨by rw [HS.out]; rfl, HB2.out⟩
set_option maxHeartbeats 1600000 in
set_option maxRecDepth 100000 in
theorem krsame45 (x y : Pv) (C D : Pc) (w : World) (hx0 : PvRk w x C) (hy0 : PvRk w y D) (hk : x.t = 45) (hl : y.t = 45) :
    Calls Tryz.prog 12 #[.agg #[.int .i64 45, .slice x.pr.p x.pr.n x.pr.c, .int .i64 x.eg, .slice x.ed.p x.ed.n x.ed.c, .int .i64 x.ik, .slice x.id.p x.id.n x.id.c, .int .i64 x.am, .slice x.ad.p x.ad.n x.ad.c, .int .i64 x.np, .slice x.ns.p x.ns.n x.ns.c, .int .i64 x.nt, .slice x.nd.p x.nd.n x.nd.c, .int .i64 x.dp, .slice x.ds.p x.ds.n x.ds.c, .slice x.se.p x.se.n x.se.c, .slice x.da.p x.da.n x.da.c], .agg #[.int .i64 45, .slice y.pr.p y.pr.n y.pr.c, .int .i64 y.eg, .slice y.ed.p y.ed.n y.ed.c, .int .i64 y.ik, .slice y.id.p y.id.n y.id.c, .int .i64 y.am, .slice y.ad.p y.ad.n y.ad.c, .int .i64 y.np, .slice y.ns.p y.ns.n y.ns.c, .int .i64 y.nt, .slice y.nd.p y.nd.n y.nd.c, .int .i64 y.dp, .slice y.ds.p y.ds.n y.ds.c, .slice y.se.p y.se.n y.se.c, .slice y.da.p y.da.n y.da.c]] w fun e w' => e = .returned (.bool (sameV x C y D)) ∧ Below w.heap.size w w' := by
  have hx := hx0.a45 hk
  have hy := hy0.a45 hl
  clear hx0 hy0
  have HB := hidden (below2 w (.cells #[.int .i64 45, .slice x.pr.p x.pr.n x.pr.c, .int .i64 x.eg, .slice x.ed.p x.ed.n x.ed.c, .int .i64 x.ik, .slice x.id.p x.id.n x.id.c, .int .i64 x.am, .slice x.ad.p x.ad.n x.ad.c, .int .i64 x.np, .slice x.ns.p x.ns.n x.ns.c, .int .i64 x.nt, .slice x.nd.p x.nd.n x.nd.c, .int .i64 x.dp, .slice x.ds.p x.ds.n x.ds.c, .slice x.se.p x.se.n x.se.c, .slice x.da.p x.da.n x.da.c] 45) (.cells #[.int .i64 45, .slice y.pr.p y.pr.n y.pr.c, .int .i64 y.eg, .slice y.ed.p y.ed.n y.ed.c, .int .i64 y.ik, .slice y.id.p y.id.n y.id.c, .int .i64 y.am, .slice y.ad.p y.ad.n y.ad.c, .int .i64 y.np, .slice y.ns.p y.ns.n y.ns.c, .int .i64 y.nt, .slice y.nd.p y.nd.n y.nd.c, .int .i64 y.dp, .slice y.ds.p y.ds.n y.ds.c, .slice y.se.p y.se.n y.se.c, .slice y.da.p y.da.n y.da.c] 45))
  have HS : Hid (sameV x C y D = decide (C.se = D.se)) := hidden (by unfold sameV; simp [hk, hl])
  have HE := hidden (same5_any _ _ _ _ _ _ _ _ _ (hx.se.below HB.out) (hy.se.below HB.out))
  clear hx hy hk hl
  go_enter Tryz.func12, Tryz.ntmps12
  go_wp2_with (go_at_call 28; (with_reducible refine (HE.out).mono ?_); rintro e w1 ⟨rfl, hb⟩; have HB2 := hidden (HB.out.trans (hb.mono HB.out.size)); clear hb)
  go_ret
  exact ⟨by rw [HS.out]; rfl, HB2.out⟩
set_option maxHeartbeats 1600000 in
set_option maxRecDepth 100000 in
theorem krsameX (x y : Pv) (C D : Pc) (w : World) (hx0 : PvRk w x C) (hy0 : PvRk w y D) (t : Int) (hk : x.t = t) (hl : y.t = t) (hk33 : t ≠ 33) (hk34 : t ≠ 34) (hk35 : t ≠ 35) (hk36 : t ≠ 36) (hk39 : t ≠ 39) (hk41 : t ≠ 41) (hk42 : t ≠ 42) (hk44 : t ≠ 44) (hk45 : t ≠ 45) :
    Calls Tryz.prog 12 #[.agg #[.int .i64 t, .slice x.pr.p x.pr.n x.pr.c, .int .i64 x.eg, .slice x.ed.p x.ed.n x.ed.c, .int .i64 x.ik, .slice x.id.p x.id.n x.id.c, .int .i64 x.am, .slice x.ad.p x.ad.n x.ad.c, .int .i64 x.np, .slice x.ns.p x.ns.n x.ns.c, .int .i64 x.nt, .slice x.nd.p x.nd.n x.nd.c, .int .i64 x.dp, .slice x.ds.p x.ds.n x.ds.c, .slice x.se.p x.se.n x.se.c, .slice x.da.p x.da.n x.da.c], .agg #[.int .i64 t, .slice y.pr.p y.pr.n y.pr.c, .int .i64 y.eg, .slice y.ed.p y.ed.n y.ed.c, .int .i64 y.ik, .slice y.id.p y.id.n y.id.c, .int .i64 y.am, .slice y.ad.p y.ad.n y.ad.c, .int .i64 y.np, .slice y.ns.p y.ns.n y.ns.c, .int .i64 y.nt, .slice y.nd.p y.nd.n y.nd.c, .int .i64 y.dp, .slice y.ds.p y.ds.n y.ds.c, .slice y.se.p y.se.n y.se.c, .slice y.da.p y.da.n y.da.c]] w fun e w' => e = .returned (.bool (sameV x C y D)) ∧ Below w.heap.size w w' := by
  have hx := hx0.aX (by rw [hk]; exact hk33) (by rw [hk]; exact hk34) (by rw [hk]; exact hk35) (by rw [hk]; exact hk36) (by rw [hk]; exact hk39) (by rw [hk]; exact hk41) (by rw [hk]; exact hk42) (by rw [hk]; exact hk44) (by rw [hk]; exact hk45)
  have hy := hy0.aX (by rw [hl]; exact hk33) (by rw [hl]; exact hk34) (by rw [hl]; exact hk35) (by rw [hl]; exact hk36) (by rw [hl]; exact hk39) (by rw [hl]; exact hk41) (by rw [hl]; exact hk42) (by rw [hl]; exact hk44) (by rw [hl]; exact hk45)
  clear hx0 hy0
  have HB := hidden (below2 w (.cells #[.int .i64 t, .slice x.pr.p x.pr.n x.pr.c, .int .i64 x.eg, .slice x.ed.p x.ed.n x.ed.c, .int .i64 x.ik, .slice x.id.p x.id.n x.id.c, .int .i64 x.am, .slice x.ad.p x.ad.n x.ad.c, .int .i64 x.np, .slice x.ns.p x.ns.n x.ns.c, .int .i64 x.nt, .slice x.nd.p x.nd.n x.nd.c, .int .i64 x.dp, .slice x.ds.p x.ds.n x.ds.c, .slice x.se.p x.se.n x.se.c, .slice x.da.p x.da.n x.da.c] 45) (.cells #[.int .i64 t, .slice y.pr.p y.pr.n y.pr.c, .int .i64 y.eg, .slice y.ed.p y.ed.n y.ed.c, .int .i64 y.ik, .slice y.id.p y.id.n y.id.c, .int .i64 y.am, .slice y.ad.p y.ad.n y.ad.c, .int .i64 y.np, .slice y.ns.p y.ns.n y.ns.c, .int .i64 y.nt, .slice y.nd.p y.nd.n y.nd.c, .int .i64 y.dp, .slice y.ds.p y.ds.n y.ds.c, .slice y.se.p y.se.n y.se.c, .slice y.da.p y.da.n y.da.c] 45))
  have e0 : (t != t) = false := by simp
  have k33 : (t == 33) = false := by simpa using hk33
  have k34 : (t == 34) = false := by simpa using hk34
  have k35 : (t == 35) = false := by simpa using hk35
  have k36 : (t == 36) = false := by simpa using hk36
  have k39 : (t == 39) = false := by simpa using hk39
  have k41 : (t == 41) = false := by simpa using hk41
  have k42 : (t == 42) = false := by simpa using hk42
  have k44 : (t == 44) = false := by simpa using hk44
  have k45 : (t == 45) = false := by simpa using hk45
  obtain ⟨b1, hb1⟩ : ∃ b, decide (C.da = D.da) = b := ⟨_, rfl⟩
  have Hb1 := hidden (fun W (hb : Below w.heap.size w W) => requal_any _ _ _ _ _ _ _ _ W (hx.da.below hb) (hy.da.below hb))
  rw [hb1] at Hb1
  have HS : Hid (sameV x C y D = b1) := hidden (by rw [← hb1]; unfold sameV; simp [hk, hl, hk33, hk34, hk35, hk36, hk39, hk41, hk42, hk44, hk45])
  clear hx hy hb1 hk hl hk33 hk34 hk35 hk36 hk39 hk41 hk42 hk44 hk45
  go_enter Tryz.func12, Tryz.ntmps12
  go_wp2_with (go_at_call 14; (with_reducible refine (Hb1.out _ HB.out).mono ?_); rintro e w_b1 ⟨rfl, r_b1, rfl⟩; have HB_b1 := hidden (HB.out.trans ((drew_below ⟨r_b1, rfl⟩).mono HB.out.size)); clear Hb1)
  go_ret
  exact ⟨by rw [HS.out]; rfl, HB_b1.out⟩
set_option maxHeartbeats 1600000 in
set_option maxRecDepth 100000 in
theorem krsame_any (x y : Pv) (C D : Pc) (w : World) (hx : PvRk w x C) (hy : PvRk w y D) :
    Calls Tryz.prog 12 #[(.agg #[.int .i64 x.t, .slice x.pr.p x.pr.n x.pr.c, .int .i64 x.eg, .slice x.ed.p x.ed.n x.ed.c, .int .i64 x.ik, .slice x.id.p x.id.n x.id.c, .int .i64 x.am, .slice x.ad.p x.ad.n x.ad.c, .int .i64 x.np, .slice x.ns.p x.ns.n x.ns.c, .int .i64 x.nt, .slice x.nd.p x.nd.n x.nd.c, .int .i64 x.dp, .slice x.ds.p x.ds.n x.ds.c, .slice x.se.p x.se.n x.se.c, .slice x.da.p x.da.n x.da.c]), (.agg #[.int .i64 y.t, .slice y.pr.p y.pr.n y.pr.c, .int .i64 y.eg, .slice y.ed.p y.ed.n y.ed.c, .int .i64 y.ik, .slice y.id.p y.id.n y.id.c, .int .i64 y.am, .slice y.ad.p y.ad.n y.ad.c, .int .i64 y.np, .slice y.ns.p y.ns.n y.ns.c, .int .i64 y.nt, .slice y.nd.p y.nd.n y.nd.c, .int .i64 y.dp, .slice y.ds.p y.ds.n y.ds.c, .slice y.se.p y.se.n y.se.c, .slice y.da.p y.da.n y.da.c])] w fun e w' => e = .returned (.bool (sameV x C y D)) ∧ Below w.heap.size w w' := by
  by_cases ht : x.t = y.t
  rotate_left
  · have e0 : (x.t != y.t) = true := by simpa using ht
    have HS : Hid (sameV x C y D = false) := hidden (by unfold sameV; simp [ht])
    have HB := hidden (below2 w (.cells #[.int .i64 x.t, .slice x.pr.p x.pr.n x.pr.c, .int .i64 x.eg, .slice x.ed.p x.ed.n x.ed.c, .int .i64 x.ik, .slice x.id.p x.id.n x.id.c, .int .i64 x.am, .slice x.ad.p x.ad.n x.ad.c, .int .i64 x.np, .slice x.ns.p x.ns.n x.ns.c, .int .i64 x.nt, .slice x.nd.p x.nd.n x.nd.c, .int .i64 x.dp, .slice x.ds.p x.ds.n x.ds.c, .slice x.se.p x.se.n x.se.c, .slice x.da.p x.da.n x.da.c] 45) (.cells #[.int .i64 y.t, .slice y.pr.p y.pr.n y.pr.c, .int .i64 y.eg, .slice y.ed.p y.ed.n y.ed.c, .int .i64 y.ik, .slice y.id.p y.id.n y.id.c, .int .i64 y.am, .slice y.ad.p y.ad.n y.ad.c, .int .i64 y.np, .slice y.ns.p y.ns.n y.ns.c, .int .i64 y.nt, .slice y.nd.p y.nd.n y.nd.c, .int .i64 y.dp, .slice y.ds.p y.ds.n y.ds.c, .slice y.se.p y.se.n y.se.c, .slice y.da.p y.da.n y.da.c] 45))
    clear hx hy ht
    go_enter Tryz.func12, Tryz.ntmps12
    go_wp2_with fail
    go_ret
    exact ⟨by rw [HS.out]; rfl, HB.out⟩
  by_cases k33 : x.t = 33
  · have l33 : y.t = 33 := ht ▸ k33
    have := krsame33 x y C D w hx hy k33 l33
    rw [k33, l33]
    exact this
  by_cases k34 : x.t = 34
  · have l34 : y.t = 34 := ht ▸ k34
    have := krsame34 x y C D w hx hy k34 l34
    rw [k34, l34]
    exact this
  by_cases k35 : x.t = 35
  · have l35 : y.t = 35 := ht ▸ k35
    have := krsame35 x y C D w hx hy k35 l35
    rw [k35, l35]
    exact this
  by_cases k36 : x.t = 36
  · have l36 : y.t = 36 := ht ▸ k36
    have := krsame36 x y C D w hx hy k36 l36
    rw [k36, l36]
    exact this
  by_cases k39 : x.t = 39
  · have l39 : y.t = 39 := ht ▸ k39
    have := krsame39 x y C D w hx hy k39 l39
    rw [k39, l39]
    exact this
  by_cases k41 : x.t = 41
  · have l41 : y.t = 41 := ht ▸ k41
    have := krsame41 x y C D w hx hy k41 l41
    rw [k41, l41]
    exact this
  by_cases k42 : x.t = 42
  · have l42 : y.t = 42 := ht ▸ k42
    have := krsame42 x y C D w hx hy k42 l42
    rw [k42, l42]
    exact this
  by_cases k44 : x.t = 44
  · have l44 : y.t = 44 := ht ▸ k44
    have := krsame44 x y C D w hx hy k44 l44
    rw [k44, l44]
    exact this
  by_cases k45 : x.t = 45
  · have l45 : y.t = 45 := ht ▸ k45
    have := krsame45 x y C D w hx hy k45 l45
    rw [k45, l45]
    exact this
  have := krsameX x y C D w hx hy x.t rfl ht.symm k33 k34 k35 k36 k39 k41 k42 k44 k45
  rw [← ht]
  exact this
end Go.Proofs.YtbpmanbpmlkmnaaGreatDoor

namespace Go.Proofs.YtbpmanbpmlkmnaaGreatDoor
open Go.RowKit
set_option linter.unusedVariables false

def authE (m : Int) (n : Nat) : Int := if m ≠ 2 ∧ m ≠ 14 then 5 else if n = 0 then 2 else 0
def authenE (xs : List Int) (n : Nat) : Int := if n < 4 then 1 else authE (nthB xs 0) (n - 4)
set_option maxHeartbeats 800000 in
theorem checkAuth_any (m : Int) (p : Option Addr) (n c : Nat) (w : World) (hn : n ≤ 9223372036854775807) (E : Int) (hE : authE m n = E) :
    Calls Tryz.prog 61 #[.agg #[.int .i64 m, .slice p n c]] w fun e w' => e = .returned (.int .i64 E) ∧ Below w.heap.size w w' := by
  have HB := hidden ((Below.refl w.heap.size w).alloc (Nat.le_refl _) (.cells #[.int .i64 m, .slice p n c] 37))
  unfold authE at hE
  by_cases h1 : m ≠ 2 ∧ m ≠ 14
  · rw [if_pos h1] at hE
    subst hE
    have e1 : (m != 2) = true := by simpa using h1.1
    have e2 : (m != 14) = true := by simpa using h1.2
    clear h1
    go_enter Tryz.func61, Tryz.ntmps61
    go_wp2
    go_ret
    exact ⟨rfl, HB.out⟩
  rw [if_neg h1] at hE
  have hm : m = 2 ∨ m = 14 := by omega
  clear h1
  by_cases h3 : n = 0
  · rw [if_pos h3] at hE
    subst hE h3
    rcases hm with rfl | rfl
    all_goals
      go_enter Tryz.func61, Tryz.ntmps61
      go_wp2
      go_ret
      exact ⟨rfl, HB.out⟩
  · rw [if_neg h3] at hE
    subst hE
    have hz : ((n : Int) == 0) = false := by simp; omega
    clear h3
    rcases hm with rfl | rfl
    all_goals
      go_enter Tryz.func61, Tryz.ntmps61
      go_wp2
      go_ret
      exact ⟨rfl, HB.out⟩
set_option maxHeartbeats 1600000 in
set_option maxRecDepth 100000 in
theorem auth_read (p : Option Addr) (n c : Nat) (xs : List Int) (w : World) (h : Byt w p n c xs) (hb : n ≤ 140737488355328) :
    Calls Tryz.prog 44 #[.slice p n c] w (ReadPv w (authenE xs n) fun w' x => x.am = (nthB xs 0) ∧ FrV w' w.heap.size x.ad (xs.drop 4)) := by
  have hn := h.le
  have H1 := hidden (h.alloc (.cells #[.int .i64 0, .slice none 0 0, .int .i64 0, .slice none 0 0, .int .i64 0, .slice none 0 0, .int .i64 0, .slice none 0 0, .int .i64 0, .slice none 0 0, .int .i64 0, .slice none 0 0, .int .i64 0, .slice none 0 0, .slice none 0 0, .slice none 0 0] 45))
  have HB := hidden ((Below.refl w.heap.size w).alloc (Nat.le_refl _) (.cells #[.int .i64 0, .slice none 0 0, .int .i64 0, .slice none 0 0, .int .i64 0, .slice none 0 0, .int .i64 0, .slice none 0 0, .int .i64 0, .slice none 0 0, .int .i64 0, .slice none 0 0, .int .i64 0, .slice none 0 0, .slice none 0 0, .slice none 0 0] 45))
  have HZ : Hid (PvIn (w.alloc (.cells #[.int .i64 0, .slice none 0 0, .int .i64 0, .slice none 0 0, .int .i64 0, .slice none 0 0, .int .i64 0, .slice none 0 0, .int .i64 0, .slice none 0 0, .int .i64 0, .slice none 0 0, .int .i64 0, .slice none 0 0, .slice none 0 0, .slice none 0 0] 45)) w.heap.size zeroP) := hidden (PvIn.new w zeroP 45)
  have b0 := nthB_rng h.rng 0
  have b1 := nthB_rng h.rng 1
  have b2 := nthB_rng h.rng 2
  have b3 := nthB_rng h.rng 3
  obtain ⟨E, hE⟩ : ∃ E, authenE xs n = E := ⟨_, rfl⟩
  rw [hE]
  unfold authenE at hE
  by_cases h4 : n < 4
  · rw [if_pos h4] at hE
    subst hE
    clear h
    go_enter Tryz.func44, Tryz.ntmps44
    go_wp2_with (first
      | (go_at_call 70; (with_reducible refine (split_any _ _ _ _ _ H1.out hb).mono ?_); rintro e w2 ⟨hb2, ⟨-, rfl⟩ | ⟨k4, -⟩⟩; rotate_left; (exact absurd k4 (by omega)); have HB2 := hidden ((HB.out.trans (hb2.mono HB.out.size)).alloc (HB.out.trans (hb2.mono HB.out.size)).size (.cells #[.int .u8 0, .int .u8 0, .int .u8 0, .int .u8 0] 110)); have HZ2 := hidden ((HZ.out.below hb2).alloc (.cells #[.int .u8 0, .int .u8 0, .int .u8 0, .int .u8 0] 110)); obtain ⟨z0, z1, z2, z3, z4, z5, z6, z7, z8, z9, z10, z11, z12, z13, z14, z15, zf⟩ := HZ2.out; clear hb2)
      | fail)
    have hz := stored_pv HZ2.out HB2.out (Nat.le_refl _) zeroP
    simp only [setPv, zeroP, nilV] at hz
    exact ret_pv (g := w.heap.size) rfl rfl rfl rfl hz.1 ⟨_, rfl, hz.2, fun h => by cases h⟩
  · rw [if_neg h4] at hE
    have HCI := hidden (fun q d => checkAuth_any (nthB xs 0) q (n - 4) d · (by omega) E hE)
    have HV := hidden (show val (([nthB xs 0, nthB xs 1, nthB xs 2, nthB xs 3].drop 0).take 1) = (nthB xs 0) by simp [val])
    clear h hE
    go_enter Tryz.func44, Tryz.ntmps44
    go_upto_region 5 with (first
      | (go_at_call 70; (with_reducible refine (split_any _ _ _ _ _ H1.out hb).mono ?_); rintro e w2 ⟨hb2, ⟨k4, -⟩ | ⟨-, q2, d2, rfl, hf⟩⟩; (exact absurd k4 h4); have HB2 := hidden ((HB.out.trans (hb2.mono HB.out.size)).alloc (HB.out.trans (hb2.mono HB.out.size)).size (.cells #[.int .u8 (nthB xs 0), .int .u8 (nthB xs 1), .int .u8 (nthB xs 2), .int .u8 (nthB xs 3)] 110)); have HZ2 := hidden ((HZ.out.below hb2).alloc (.cells #[.int .u8 (nthB xs 0), .int .u8 (nthB xs 1), .int .u8 (nthB xs 2), .int .u8 (nthB xs 3)] 110)); have HF2 := hidden (hf.alloc (.cells #[.int .u8 (nthB xs 0), .int .u8 (nthB xs 1), .int .u8 (nthB xs 2), .int .u8 (nthB xs 3)] 110)); clear hb2 hf)
      | (go_at_call 71; (with_reducible refine (fnumber_any _ _ _ _ b0 b1 b2 b3 0 1 0 1 rfl rfl (by omega) (by omega) _ HV.out _).mono ?_); rintro e w3 ⟨rfl, hb3⟩; have HB3 := hidden (HB2.out.trans (hb3.mono HB2.out.size)); have HZ3 := hidden (HZ2.out.below hb3); have HF3 := hidden (HF2.out.below hb3); clear hb3 HB2 HZ2 HF2)
      | fail)
    have HB4 := hidden (HB3.out.alloc HB3.out.size (.cells #[.int .i64 ((nthB xs 0)), .slice q2 (n - 4) d2] 37))
    have HZ4 := hidden (HZ3.out.alloc (.cells #[.int .i64 ((nthB xs 0)), .slice q2 (n - 4) d2] 37))
    have HF4 := hidden (HF3.out.alloc (.cells #[.int .i64 ((nthB xs 0)), .slice q2 (n - 4) d2] 37))
    have d0 : (w3.alloc (.cells #[.int .i64 ((nthB xs 0)), .slice q2 (n - 4) d2] 37)).cell? ⟨w3.heap.size, 0, none⟩ = some (.int .i64 ((nthB xs 0))) := by go_simp
    have d1 : (w3.alloc (.cells #[.int .i64 ((nthB xs 0)), .slice q2 (n - 4) d2] 37)).cell? ⟨w3.heap.size, 1, none⟩ = some (.slice q2 (n - 4) d2) := by go_simp
    generalize hw4 : w3.alloc (.cells #[.int .i64 ((nthB xs 0)), .slice q2 (n - 4) d2] 37) = w4 at *
    have hgl := HZ3.out.lt
    generalize w3.heap.size = g3 at *
    have hn1 : ¬ g3 = w.heap.size := by omega
    have hn2 : ¬ w.heap.size = g3 := by omega
    have hgk : w.heap.size < (w.alloc (.cells #[.int .i64 0, .slice none 0 0, .int .i64 0, .slice none 0 0, .int .i64 0, .slice none 0 0, .int .i64 0, .slice none 0 0, .int .i64 0, .slice none 0 0, .int .i64 0, .slice none 0 0, .int .i64 0, .slice none 0 0, .slice none 0 0, .slice none 0 0] 45)).heap.size := by simp
    have HKG := hidden hgk
    clear hw4 HB3 HZ3 HF3 hgk hgl
    go_upto_region 5 with fail
    have HK := hidden (fun wx (hb : Below w4.heap.size w4 wx) => And.intro (cell_below hb _ _ d0) (cell_below hb _ _ d1))
    have HBD := hidden (show Below w4.heap.size w4 w4.drew from drew_below ⟨1, rfl⟩)
    have HZD := hidden (HZ4.out.below (w' := w4.drew) HBD.out)
    obtain ⟨y0, y1, y2, y3, y4, y5, y6, y7, y8, y9, y10, y11, y12, y13, y14, y15, z0, z1, z2, z3, z4, z5, z6, z7, z8, z9, z10, z11, z12, z13, z14, z15, zf⟩ := HZD.out.any
    go_region_with
      (first
      | (go_at_call 61; (with_reducible refine (HCI.out _ q2 d2).mono ?_); rintro e w5 ⟨rfl, hbc⟩; have hB := HBD.out.trans hbc; have HB5 := hidden (HB4.out.trans (hB.mono HB4.out.size)); have HZ5 := hidden (HZ4.out.below hB); have HF5 := hidden (HF4.out.below hB); obtain ⟨d0', d1'⟩ := HK.out _ hB; clear z0 z1 z2 z3 z4 z5 z6 z7 z8 z9 z10 z11 z12 z13 z14 z15 zf y0 y1 y2 y3 y4 y5 y6 y7 y8 y9 y10 y11 y12 y13 y14 y15; obtain ⟨y0, y1, y2, y3, y4, y5, y6, y7, y8, y9, y10, y11, y12, y13, y14, y15, z0, z1, z2, z3, z4, z5, z6, z7, z8, z9, z10, z11, z12, z13, z14, z15, zf⟩ := HZ5.out.any; clear hB)
      | fail)
    all_goals
      have hz := stored_pv HZ5.out HB5.out (Nat.le_refl _) ⟨0, nilV, 0, nilV, 0, nilV, nthB xs 0, ⟨q2, n - 4, d2⟩, 0, nilV, 0, nilV, 0, nilV, nilV, nilV⟩
      have hfl := (HF5.out.low (setPv_grown w5 w.heap.size ⟨0, nilV, 0, nilV, 0, nilV, nthB xs 0, ⟨q2, n - 4, d2⟩, 0, nilV, 0, nilV, 0, nilV, nilV, nilV⟩) HKG.out).mono (Nat.le_of_lt HKG.out)
      simp only [setPv, nilV] at hz hfl
      have HZZ := hidden hz
      have HFF := hidden hfl
      clear hz hfl hbc
      go_wp2
      exact ret_pv (g := w.heap.size) rfl rfl rfl rfl HZZ.out.1 ⟨_, rfl, HZZ.out.2, fun _ => ⟨rfl, HFF.out⟩⟩
end Go.Proofs.YtbpmanbpmlkmnaaGreatDoor
