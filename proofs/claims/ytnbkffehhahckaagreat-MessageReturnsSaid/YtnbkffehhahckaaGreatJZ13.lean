/-
  Which payloads are the same, where only the part that the type needs can be read.
  The notifications of a type (message.Notes): a list that is empty just if there is none.
-/
import Derived.Test.YtnbkffehhahckaaGreatJPayEq4
import Derived.Test.YtnbkffehhahckaaGreatJZ19
namespace Go.Proofs.YtnbkffehhahckaaGreat
open Go.RowKit
set_option linter.unusedVariables false
structure R33 (w : World) (x : Pv) (C : Pc) : Prop where
  pr : RdG KPr DPr w x.pr.p x.pr.n x.pr.c C.pr
structure R34 (w : World) (x : Pv) (C : Pc) : Prop where
  ed : Byt w x.ed.p x.ed.n x.ed.c C.ed
structure R35 (w : World) (x : Pv) (C : Pc) : Prop where
  id : Byt w x.id.p x.id.n x.id.c C.id
structure R39 (w : World) (x : Pv) (C : Pc) : Prop where
  ad : Byt w x.ad.p x.ad.n x.ad.c C.ad
structure R41 (w : World) (x : Pv) (C : Pc) : Prop where
  ns : Byt w x.ns.p x.ns.n x.ns.c C.ns
  nd : Byt w x.nd.p x.nd.n x.nd.c C.nd
structure R42 (w : World) (x : Pv) (C : Pc) : Prop where
  ds : RdG KSb DSb w x.ds.p x.ds.n x.ds.c C.ds
structure R44 (w : World) (x : Pv) (C : Pc) : Prop where
  se : RdG KSl DSlr w x.se.p x.se.n x.se.c C.se
structure RX (w : World) (x : Pv) (C : Pc) : Prop where
  da : Byt w x.da.p x.da.n x.da.c C.da
structure PvRk (w : World) (x : Pv) (C : Pc) : Prop where
  a33 : x.t = 33 → R33 w x C
  a34 : x.t = 34 → R34 w x C
  a35 : x.t = 35 → R35 w x C
  a36 : x.t = 36 → R35 w x C
  a39 : x.t = 39 → R39 w x C
  a41 : x.t = 41 → R41 w x C
  a42 : x.t = 42 → R42 w x C
  a44 : x.t = 44 → R44 w x C
  a45 : x.t = 45 → R44 w x C
  aX : x.t ≠ 33 → x.t ≠ 34 → x.t ≠ 35 → x.t ≠ 36 → x.t ≠ 39 → x.t ≠ 41 → x.t ≠ 42 → x.t ≠ 44 → x.t ≠ 45 → RX w x C
theorem PvRd.rk {w : World} {x : Pv} {C : Pc} (h : PvRd w x C) : PvRk w x C :=
  ⟨fun _ => ⟨h.pr⟩, fun _ => ⟨h.ed⟩, fun _ => ⟨h.id⟩, fun _ => ⟨h.id⟩, fun _ => ⟨h.ad⟩, fun _ => ⟨h.ns, h.nd⟩, fun _ => ⟨h.ds⟩, fun _ => ⟨h.se⟩, fun _ => ⟨h.se⟩, fun _ _ _ _ _ _ _ _ _ => ⟨h.da⟩⟩
theorem PvRk.below {w w' : World} {x : Pv} {C : Pc} (h : PvRk w x C) (hb : Below w.heap.size w w') : PvRk w' x C :=
  ⟨fun e => ⟨(h.a33 e).pr.below hb⟩, fun e => ⟨(h.a34 e).ed.below hb⟩, fun e => ⟨(h.a35 e).id.below hb⟩, fun e => ⟨(h.a36 e).id.below hb⟩, fun e => ⟨(h.a39 e).ad.below hb⟩, fun e => ⟨(h.a41 e).ns.below hb, (h.a41 e).nd.below hb⟩, fun e => ⟨(h.a42 e).ds.below hb⟩, fun e => ⟨(h.a44 e).se.below hb⟩, fun e => ⟨(h.a45 e).se.below hb⟩, fun e1 e2 e3 e4 e5 e6 e7 e8 e9 => ⟨(h.aX e1 e2 e3 e4 e5 e6 e7 e8 e9).da.below hb⟩⟩
set_option maxHeartbeats 1600000 in
set_option maxRecDepth 100000 in
theorem krsame33 (x y : Pv) (C D : Pc) (w : World) (hx0 : PvRk w x C) (hy0 : PvRk w y D) (hk : x.t = 33) (hl : y.t = 33) :
    Calls Tryz.prog 43 #[.agg #[.int .i64 33, .slice x.pr.p x.pr.n x.pr.c, .int .i64 x.eg, .slice x.ed.p x.ed.n x.ed.c, .int .i64 x.ik, .slice x.id.p x.id.n x.id.c, .int .i64 x.am, .slice x.ad.p x.ad.n x.ad.c, .int .i64 x.np, .slice x.ns.p x.ns.n x.ns.c, .int .i64 x.nt, .slice x.nd.p x.nd.n x.nd.c, .int .i64 x.dp, .slice x.ds.p x.ds.n x.ds.c, .slice x.se.p x.se.n x.se.c, .slice x.da.p x.da.n x.da.c], .agg #[.int .i64 33, .slice y.pr.p y.pr.n y.pr.c, .int .i64 y.eg, .slice y.ed.p y.ed.n y.ed.c, .int .i64 y.ik, .slice y.id.p y.id.n y.id.c, .int .i64 y.am, .slice y.ad.p y.ad.n y.ad.c, .int .i64 y.np, .slice y.ns.p y.ns.n y.ns.c, .int .i64 y.nt, .slice y.nd.p y.nd.n y.nd.c, .int .i64 y.dp, .slice y.ds.p y.ds.n y.ds.c, .slice y.se.p y.se.n y.se.c, .slice y.da.p y.da.n y.da.c]] w fun e w' => e = .returned (.bool (sameV x C y D)) ∧ Below w.heap.size w w' := by
  have hx := hx0.a33 hk
  have hy := hy0.a33 hl
  clear hx0 hy0
  have HB := hidden (below2 w (.cells #[.int .i64 33, .slice x.pr.p x.pr.n x.pr.c, .int .i64 x.eg, .slice x.ed.p x.ed.n x.ed.c, .int .i64 x.ik, .slice x.id.p x.id.n x.id.c, .int .i64 x.am, .slice x.ad.p x.ad.n x.ad.c, .int .i64 x.np, .slice x.ns.p x.ns.n x.ns.c, .int .i64 x.nt, .slice x.nd.p x.nd.n x.nd.c, .int .i64 x.dp, .slice x.ds.p x.ds.n x.ds.c, .slice x.se.p x.se.n x.se.c, .slice x.da.p x.da.n x.da.c] 56) (.cells #[.int .i64 33, .slice y.pr.p y.pr.n y.pr.c, .int .i64 y.eg, .slice y.ed.p y.ed.n y.ed.c, .int .i64 y.ik, .slice y.id.p y.id.n y.id.c, .int .i64 y.am, .slice y.ad.p y.ad.n y.ad.c, .int .i64 y.np, .slice y.ns.p y.ns.n y.ns.c, .int .i64 y.nt, .slice y.nd.p y.nd.n y.nd.c, .int .i64 y.dp, .slice y.ds.p y.ds.n y.ds.c, .slice y.se.p y.se.n y.se.c, .slice y.da.p y.da.n y.da.c] 56))
  have HS : Hid (sameV x C y D = decide (C.pr.map PrP.pr = D.pr.map PrP.pr)) := hidden (by unfold sameV; simp [hk, hl])
  have HE := hidden (same4_any _ _ _ _ _ _ _ _ _ (hx.pr.below HB.out) (hy.pr.below HB.out))
  clear hx hy hk hl
  go_enter Tryz.func43, Tryz.ntmps43
  go_wp2_with (go_at_call 57; (with_reducible refine (HE.out).mono ?_); rintro e w1 ⟨rfl, hb⟩; have HB2 := hidden (HB.out.trans (hb.mono HB.out.size)); clear hb)
  go_ret
  exact ⟨by rw [HS.out]; rfl, HB2.out⟩
set_option maxHeartbeats 1600000 in
set_option maxRecDepth 100000 in
theorem krsame34 (x y : Pv) (C D : Pc) (w : World) (hx0 : PvRk w x C) (hy0 : PvRk w y D) (hk : x.t = 34) (hl : y.t = 34) :
    Calls Tryz.prog 43 #[.agg #[.int .i64 34, .slice x.pr.p x.pr.n x.pr.c, .int .i64 x.eg, .slice x.ed.p x.ed.n x.ed.c, .int .i64 x.ik, .slice x.id.p x.id.n x.id.c, .int .i64 x.am, .slice x.ad.p x.ad.n x.ad.c, .int .i64 x.np, .slice x.ns.p x.ns.n x.ns.c, .int .i64 x.nt, .slice x.nd.p x.nd.n x.nd.c, .int .i64 x.dp, .slice x.ds.p x.ds.n x.ds.c, .slice x.se.p x.se.n x.se.c, .slice x.da.p x.da.n x.da.c], .agg #[.int .i64 34, .slice y.pr.p y.pr.n y.pr.c, .int .i64 y.eg, .slice y.ed.p y.ed.n y.ed.c, .int .i64 y.ik, .slice y.id.p y.id.n y.id.c, .int .i64 y.am, .slice y.ad.p y.ad.n y.ad.c, .int .i64 y.np, .slice y.ns.p y.ns.n y.ns.c, .int .i64 y.nt, .slice y.nd.p y.nd.n y.nd.c, .int .i64 y.dp, .slice y.ds.p y.ds.n y.ds.c, .slice y.se.p y.se.n y.se.c, .slice y.da.p y.da.n y.da.c]] w fun e w' => e = .returned (.bool (sameV x C y D)) ∧ Below w.heap.size w w' := by
  have hx := hx0.a34 hk
  have hy := hy0.a34 hl
  clear hx0 hy0
  have HB := hidden (below2 w (.cells #[.int .i64 34, .slice x.pr.p x.pr.n x.pr.c, .int .i64 x.eg, .slice x.ed.p x.ed.n x.ed.c, .int .i64 x.ik, .slice x.id.p x.id.n x.id.c, .int .i64 x.am, .slice x.ad.p x.ad.n x.ad.c, .int .i64 x.np, .slice x.ns.p x.ns.n x.ns.c, .int .i64 x.nt, .slice x.nd.p x.nd.n x.nd.c, .int .i64 x.dp, .slice x.ds.p x.ds.n x.ds.c, .slice x.se.p x.se.n x.se.c, .slice x.da.p x.da.n x.da.c] 56) (.cells #[.int .i64 34, .slice y.pr.p y.pr.n y.pr.c, .int .i64 y.eg, .slice y.ed.p y.ed.n y.ed.c, .int .i64 y.ik, .slice y.id.p y.id.n y.id.c, .int .i64 y.am, .slice y.ad.p y.ad.n y.ad.c, .int .i64 y.np, .slice y.ns.p y.ns.n y.ns.c, .int .i64 y.nt, .slice y.nd.p y.nd.n y.nd.c, .int .i64 y.dp, .slice y.ds.p y.ds.n y.ds.c, .slice y.se.p y.se.n y.se.c, .slice y.da.p y.da.n y.da.c] 56))
  obtain ⟨b1, hb1⟩ : ∃ b, decide (C.ed = D.ed) = b := ⟨_, rfl⟩
  have Hb1 := hidden (fun W (hb : Below w.heap.size w W) => requal_any _ _ _ _ _ _ _ _ W (hx.ed.below hb) (hy.ed.below hb))
  rw [hb1] at Hb1
  by_cases h1 : x.eg = y.eg
  rotate_left
  · have e1 : (x.eg == y.eg) = false := by simpa using h1
    have HS : Hid (sameV x C y D = false) := hidden (by unfold sameV; simp [hk, hl, h1])
    clear hx hy hb1 h1 hk hl
    go_enter Tryz.func43, Tryz.ntmps43
    go_wp2_with fail
    go_ret
    exact ⟨by rw [HS.out]; rfl, HB.out⟩
  have e1 : (x.eg == y.eg) = true := by simpa using h1
  have HS : Hid (sameV x C y D = b1) := hidden (by rw [← hb1]; unfold sameV; simp [hk, hl, h1])
  clear hx hy hb1 h1 hk hl
  go_enter Tryz.func43, Tryz.ntmps43
  go_wp2_with (go_at_call 59; (with_reducible refine (Hb1.out _ HB.out).mono ?_); rintro e w_b1 ⟨rfl, r_b1, rfl⟩; have HB_b1 := hidden (HB.out.trans ((drew_below ⟨r_b1, rfl⟩).mono HB.out.size)); clear Hb1)
  go_ret
  exact ⟨by rw [HS.out]; rfl, HB_b1.out⟩
set_option maxHeartbeats 1600000 in
set_option maxRecDepth 100000 in
theorem krsame35 (x y : Pv) (C D : Pc) (w : World) (hx0 : PvRk w x C) (hy0 : PvRk w y D) (hk : x.t = 35) (hl : y.t = 35) :
    Calls Tryz.prog 43 #[.agg #[.int .i64 35, .slice x.pr.p x.pr.n x.pr.c, .int .i64 x.eg, .slice x.ed.p x.ed.n x.ed.c, .int .i64 x.ik, .slice x.id.p x.id.n x.id.c, .int .i64 x.am, .slice x.ad.p x.ad.n x.ad.c, .int .i64 x.np, .slice x.ns.p x.ns.n x.ns.c, .int .i64 x.nt, .slice x.nd.p x.nd.n x.nd.c, .int .i64 x.dp, .slice x.ds.p x.ds.n x.ds.c, .slice x.se.p x.se.n x.se.c, .slice x.da.p x.da.n x.da.c], .agg #[.int .i64 35, .slice y.pr.p y.pr.n y.pr.c, .int .i64 y.eg, .slice y.ed.p y.ed.n y.ed.c, .int .i64 y.ik, .slice y.id.p y.id.n y.id.c, .int .i64 y.am, .slice y.ad.p y.ad.n y.ad.c, .int .i64 y.np, .slice y.ns.p y.ns.n y.ns.c, .int .i64 y.nt, .slice y.nd.p y.nd.n y.nd.c, .int .i64 y.dp, .slice y.ds.p y.ds.n y.ds.c, .slice y.se.p y.se.n y.se.c, .slice y.da.p y.da.n y.da.c]] w fun e w' => e = .returned (.bool (sameV x C y D)) ∧ Below w.heap.size w w' := by
  have hx := hx0.a35 hk
  have hy := hy0.a35 hl
  clear hx0 hy0
  have HB := hidden (below2 w (.cells #[.int .i64 35, .slice x.pr.p x.pr.n x.pr.c, .int .i64 x.eg, .slice x.ed.p x.ed.n x.ed.c, .int .i64 x.ik, .slice x.id.p x.id.n x.id.c, .int .i64 x.am, .slice x.ad.p x.ad.n x.ad.c, .int .i64 x.np, .slice x.ns.p x.ns.n x.ns.c, .int .i64 x.nt, .slice x.nd.p x.nd.n x.nd.c, .int .i64 x.dp, .slice x.ds.p x.ds.n x.ds.c, .slice x.se.p x.se.n x.se.c, .slice x.da.p x.da.n x.da.c] 56) (.cells #[.int .i64 35, .slice y.pr.p y.pr.n y.pr.c, .int .i64 y.eg, .slice y.ed.p y.ed.n y.ed.c, .int .i64 y.ik, .slice y.id.p y.id.n y.id.c, .int .i64 y.am, .slice y.ad.p y.ad.n y.ad.c, .int .i64 y.np, .slice y.ns.p y.ns.n y.ns.c, .int .i64 y.nt, .slice y.nd.p y.nd.n y.nd.c, .int .i64 y.dp, .slice y.ds.p y.ds.n y.ds.c, .slice y.se.p y.se.n y.se.c, .slice y.da.p y.da.n y.da.c] 56))
  obtain ⟨b1, hb1⟩ : ∃ b, decide (C.id = D.id) = b := ⟨_, rfl⟩
  have Hb1 := hidden (fun W (hb : Below w.heap.size w W) => requal_any _ _ _ _ _ _ _ _ W (hx.id.below hb) (hy.id.below hb))
  rw [hb1] at Hb1
  by_cases h1 : x.ik = y.ik
  rotate_left
  · have e1 : (x.ik == y.ik) = false := by simpa using h1
    have HS : Hid (sameV x C y D = false) := hidden (by unfold sameV; simp [hk, hl, h1])
    clear hx hy hb1 h1 hk hl
    go_enter Tryz.func43, Tryz.ntmps43
    go_wp2_with fail
    go_ret
    exact ⟨by rw [HS.out]; rfl, HB.out⟩
  have e1 : (x.ik == y.ik) = true := by simpa using h1
  have HS : Hid (sameV x C y D = b1) := hidden (by rw [← hb1]; unfold sameV; simp [hk, hl, h1])
  clear hx hy hb1 h1 hk hl
  go_enter Tryz.func43, Tryz.ntmps43
  go_wp2_with (go_at_call 59; (with_reducible refine (Hb1.out _ HB.out).mono ?_); rintro e w_b1 ⟨rfl, r_b1, rfl⟩; have HB_b1 := hidden (HB.out.trans ((drew_below ⟨r_b1, rfl⟩).mono HB.out.size)); clear Hb1)
  go_ret
  exact ⟨by rw [HS.out]; rfl, HB_b1.out⟩
set_option maxHeartbeats 1600000 in
set_option maxRecDepth 100000 in
theorem krsame36 (x y : Pv) (C D : Pc) (w : World) (hx0 : PvRk w x C) (hy0 : PvRk w y D) (hk : x.t = 36) (hl : y.t = 36) :
    Calls Tryz.prog 43 #[.agg #[.int .i64 36, .slice x.pr.p x.pr.n x.pr.c, .int .i64 x.eg, .slice x.ed.p x.ed.n x.ed.c, .int .i64 x.ik, .slice x.id.p x.id.n x.id.c, .int .i64 x.am, .slice x.ad.p x.ad.n x.ad.c, .int .i64 x.np, .slice x.ns.p x.ns.n x.ns.c, .int .i64 x.nt, .slice x.nd.p x.nd.n x.nd.c, .int .i64 x.dp, .slice x.ds.p x.ds.n x.ds.c, .slice x.se.p x.se.n x.se.c, .slice x.da.p x.da.n x.da.c], .agg #[.int .i64 36, .slice y.pr.p y.pr.n y.pr.c, .int .i64 y.eg, .slice y.ed.p y.ed.n y.ed.c, .int .i64 y.ik, .slice y.id.p y.id.n y.id.c, .int .i64 y.am, .slice y.ad.p y.ad.n y.ad.c, .int .i64 y.np, .slice y.ns.p y.ns.n y.ns.c, .int .i64 y.nt, .slice y.nd.p y.nd.n y.nd.c, .int .i64 y.dp, .slice y.ds.p y.ds.n y.ds.c, .slice y.se.p y.se.n y.se.c, .slice y.da.p y.da.n y.da.c]] w fun e w' => e = .returned (.bool (sameV x C y D)) ∧ Below w.heap.size w w' := by
  have hx := hx0.a36 hk
  have hy := hy0.a36 hl
  clear hx0 hy0
  have HB := hidden (below2 w (.cells #[.int .i64 36, .slice x.pr.p x.pr.n x.pr.c, .int .i64 x.eg, .slice x.ed.p x.ed.n x.ed.c, .int .i64 x.ik, .slice x.id.p x.id.n x.id.c, .int .i64 x.am, .slice x.ad.p x.ad.n x.ad.c, .int .i64 x.np, .slice x.ns.p x.ns.n x.ns.c, .int .i64 x.nt, .slice x.nd.p x.nd.n x.nd.c, .int .i64 x.dp, .slice x.ds.p x.ds.n x.ds.c, .slice x.se.p x.se.n x.se.c, .slice x.da.p x.da.n x.da.c] 56) (.cells #[.int .i64 36, .slice y.pr.p y.pr.n y.pr.c, .int .i64 y.eg, .slice y.ed.p y.ed.n y.ed.c, .int .i64 y.ik, .slice y.id.p y.id.n y.id.c, .int .i64 y.am, .slice y.ad.p y.ad.n y.ad.c, .int .i64 y.np, .slice y.ns.p y.ns.n y.ns.c, .int .i64 y.nt, .slice y.nd.p y.nd.n y.nd.c, .int .i64 y.dp, .slice y.ds.p y.ds.n y.ds.c, .slice y.se.p y.se.n y.se.c, .slice y.da.p y.da.n y.da.c] 56))
  obtain ⟨b1, hb1⟩ : ∃ b, decide (C.id = D.id) = b := ⟨_, rfl⟩
  have Hb1 := hidden (fun W (hb : Below w.heap.size w W) => requal_any _ _ _ _ _ _ _ _ W (hx.id.below hb) (hy.id.below hb))
  rw [hb1] at Hb1
  by_cases h1 : x.ik = y.ik
  rotate_left
  · have e1 : (x.ik == y.ik) = false := by simpa using h1
    have HS : Hid (sameV x C y D = false) := hidden (by unfold sameV; simp [hk, hl, h1])
    clear hx hy hb1 h1 hk hl
    go_enter Tryz.func43, Tryz.ntmps43
    go_wp2_with fail
    go_ret
    exact ⟨by rw [HS.out]; rfl, HB.out⟩
  have e1 : (x.ik == y.ik) = true := by simpa using h1
  have HS : Hid (sameV x C y D = b1) := hidden (by rw [← hb1]; unfold sameV; simp [hk, hl, h1])
  clear hx hy hb1 h1 hk hl
  go_enter Tryz.func43, Tryz.ntmps43
  go_wp2_with (go_at_call 59; (with_reducible refine (Hb1.out _ HB.out).mono ?_); rintro e w_b1 ⟨rfl, r_b1, rfl⟩; have HB_b1 := hidden (HB.out.trans ((drew_below ⟨r_b1, rfl⟩).mono HB.out.size)); clear Hb1)
  go_ret
  exact ⟨by rw [HS.out]; rfl, HB_b1.out⟩
set_option maxHeartbeats 1600000 in
set_option maxRecDepth 100000 in
theorem krsame39 (x y : Pv) (C D : Pc) (w : World) (hx0 : PvRk w x C) (hy0 : PvRk w y D) (hk : x.t = 39) (hl : y.t = 39) :
    Calls Tryz.prog 43 #[.agg #[.int .i64 39, .slice x.pr.p x.pr.n x.pr.c, .int .i64 x.eg, .slice x.ed.p x.ed.n x.ed.c, .int .i64 x.ik, .slice x.id.p x.id.n x.id.c, .int .i64 x.am, .slice x.ad.p x.ad.n x.ad.c, .int .i64 x.np, .slice x.ns.p x.ns.n x.ns.c, .int .i64 x.nt, .slice x.nd.p x.nd.n x.nd.c, .int .i64 x.dp, .slice x.ds.p x.ds.n x.ds.c, .slice x.se.p x.se.n x.se.c, .slice x.da.p x.da.n x.da.c], .agg #[.int .i64 39, .slice y.pr.p y.pr.n y.pr.c, .int .i64 y.eg, .slice y.ed.p y.ed.n y.ed.c, .int .i64 y.ik, .slice y.id.p y.id.n y.id.c, .int .i64 y.am, .slice y.ad.p y.ad.n y.ad.c, .int .i64 y.np, .slice y.ns.p y.ns.n y.ns.c, .int .i64 y.nt, .slice y.nd.p y.nd.n y.nd.c, .int .i64 y.dp, .slice y.ds.p y.ds.n y.ds.c, .slice y.se.p y.se.n y.se.c, .slice y.da.p y.da.n y.da.c]] w fun e w' => e = .returned (.bool (sameV x C y D)) ∧ Below w.heap.size w w' := by
  have hx := hx0.a39 hk
  have hy := hy0.a39 hl
  clear hx0 hy0
  have HB := hidden (below2 w (.cells #[.int .i64 39, .slice x.pr.p x.pr.n x.pr.c, .int .i64 x.eg, .slice x.ed.p x.ed.n x.ed.c, .int .i64 x.ik, .slice x.id.p x.id.n x.id.c, .int .i64 x.am, .slice x.ad.p x.ad.n x.ad.c, .int .i64 x.np, .slice x.ns.p x.ns.n x.ns.c, .int .i64 x.nt, .slice x.nd.p x.nd.n x.nd.c, .int .i64 x.dp, .slice x.ds.p x.ds.n x.ds.c, .slice x.se.p x.se.n x.se.c, .slice x.da.p x.da.n x.da.c] 56) (.cells #[.int .i64 39, .slice y.pr.p y.pr.n y.pr.c, .int .i64 y.eg, .slice y.ed.p y.ed.n y.ed.c, .int .i64 y.ik, .slice y.id.p y.id.n y.id.c, .int .i64 y.am, .slice y.ad.p y.ad.n y.ad.c, .int .i64 y.np, .slice y.ns.p y.ns.n y.ns.c, .int .i64 y.nt, .slice y.nd.p y.nd.n y.nd.c, .int .i64 y.dp, .slice y.ds.p y.ds.n y.ds.c, .slice y.se.p y.se.n y.se.c, .slice y.da.p y.da.n y.da.c] 56))
  obtain ⟨b1, hb1⟩ : ∃ b, decide (C.ad = D.ad) = b := ⟨_, rfl⟩
  have Hb1 := hidden (fun W (hb : Below w.heap.size w W) => requal_any _ _ _ _ _ _ _ _ W (hx.ad.below hb) (hy.ad.below hb))
  rw [hb1] at Hb1
  by_cases h1 : x.am = y.am
  rotate_left
  · have e1 : (x.am == y.am) = false := by simpa using h1
    have HS : Hid (sameV x C y D = false) := hidden (by unfold sameV; simp [hk, hl, h1])
    clear hx hy hb1 h1 hk hl
    go_enter Tryz.func43, Tryz.ntmps43
    go_wp2_with fail
    go_ret
    exact ⟨by rw [HS.out]; rfl, HB.out⟩
  have e1 : (x.am == y.am) = true := by simpa using h1
  have HS : Hid (sameV x C y D = b1) := hidden (by rw [← hb1]; unfold sameV; simp [hk, hl, h1])
  clear hx hy hb1 h1 hk hl
  go_enter Tryz.func43, Tryz.ntmps43
  go_wp2_with (go_at_call 59; (with_reducible refine (Hb1.out _ HB.out).mono ?_); rintro e w_b1 ⟨rfl, r_b1, rfl⟩; have HB_b1 := hidden (HB.out.trans ((drew_below ⟨r_b1, rfl⟩).mono HB.out.size)); clear Hb1)
  go_ret
  exact ⟨by rw [HS.out]; rfl, HB_b1.out⟩
set_option maxHeartbeats 1600000 in
set_option maxRecDepth 100000 in
theorem krsame41 (x y : Pv) (C D : Pc) (w : World) (hx0 : PvRk w x C) (hy0 : PvRk w y D) (hk : x.t = 41) (hl : y.t = 41) :
    Calls Tryz.prog 43 #[.agg #[.int .i64 41, .slice x.pr.p x.pr.n x.pr.c, .int .i64 x.eg, .slice x.ed.p x.ed.n x.ed.c, .int .i64 x.ik, .slice x.id.p x.id.n x.id.c, .int .i64 x.am, .slice x.ad.p x.ad.n x.ad.c, .int .i64 x.np, .slice x.ns.p x.ns.n x.ns.c, .int .i64 x.nt, .slice x.nd.p x.nd.n x.nd.c, .int .i64 x.dp, .slice x.ds.p x.ds.n x.ds.c, .slice x.se.p x.se.n x.se.c, .slice x.da.p x.da.n x.da.c], .agg #[.int .i64 41, .slice y.pr.p y.pr.n y.pr.c, .int .i64 y.eg, .slice y.ed.p y.ed.n y.ed.c, .int .i64 y.ik, .slice y.id.p y.id.n y.id.c, .int .i64 y.am, .slice y.ad.p y.ad.n y.ad.c, .int .i64 y.np, .slice y.ns.p y.ns.n y.ns.c, .int .i64 y.nt, .slice y.nd.p y.nd.n y.nd.c, .int .i64 y.dp, .slice y.ds.p y.ds.n y.ds.c, .slice y.se.p y.se.n y.se.c, .slice y.da.p y.da.n y.da.c]] w fun e w' => e = .returned (.bool (sameV x C y D)) ∧ Below w.heap.size w w' := by
  have hx := hx0.a41 hk
  have hy := hy0.a41 hl
  clear hx0 hy0
  have HB := hidden (below2 w (.cells #[.int .i64 41, .slice x.pr.p x.pr.n x.pr.c, .int .i64 x.eg, .slice x.ed.p x.ed.n x.ed.c, .int .i64 x.ik, .slice x.id.p x.id.n x.id.c, .int .i64 x.am, .slice x.ad.p x.ad.n x.ad.c, .int .i64 x.np, .slice x.ns.p x.ns.n x.ns.c, .int .i64 x.nt, .slice x.nd.p x.nd.n x.nd.c, .int .i64 x.dp, .slice x.ds.p x.ds.n x.ds.c, .slice x.se.p x.se.n x.se.c, .slice x.da.p x.da.n x.da.c] 56) (.cells #[.int .i64 41, .slice y.pr.p y.pr.n y.pr.c, .int .i64 y.eg, .slice y.ed.p y.ed.n y.ed.c, .int .i64 y.ik, .slice y.id.p y.id.n y.id.c, .int .i64 y.am, .slice y.ad.p y.ad.n y.ad.c, .int .i64 y.np, .slice y.ns.p y.ns.n y.ns.c, .int .i64 y.nt, .slice y.nd.p y.nd.n y.nd.c, .int .i64 y.dp, .slice y.ds.p y.ds.n y.ds.c, .slice y.se.p y.se.n y.se.c, .slice y.da.p y.da.n y.da.c] 56))
  obtain ⟨b1, hb1⟩ : ∃ b, decide (C.ns = D.ns) = b := ⟨_, rfl⟩
  have Hb1 := hidden (fun W (hb : Below w.heap.size w W) => requal_any _ _ _ _ _ _ _ _ W (hx.ns.below hb) (hy.ns.below hb))
  rw [hb1] at Hb1
  obtain ⟨b2, hb2⟩ : ∃ b, decide (C.nd = D.nd) = b := ⟨_, rfl⟩
  have Hb2 := hidden (fun W (hb : Below w.heap.size w W) => requal_any _ _ _ _ _ _ _ _ W (hx.nd.below hb) (hy.nd.below hb))
  rw [hb2] at Hb2
  by_cases h1 : x.np = y.np
  rotate_left
  · have e1 : (x.np == y.np) = false := by simpa using h1
    have HS : Hid (sameV x C y D = false) := hidden (by unfold sameV; simp [hk, hl, h1])
    clear hx hy hb1 hb2 hk hl
    clear h1
    go_enter Tryz.func43, Tryz.ntmps43
    go_wp2_with fail
    go_ret
    exact ⟨by rw [HS.out]; rfl, HB.out⟩
  have e1 : (x.np == y.np) = true := by simpa using h1
  by_cases h2 : x.nt = y.nt
  rotate_left
  · have e2 : (x.nt == y.nt) = false := by simpa using h2
    have HS : Hid (sameV x C y D = false) := hidden (by unfold sameV; simp [hk, hl, h2])
    clear hx hy hb1 hb2 hk hl
    clear h1 h2
    go_enter Tryz.func43, Tryz.ntmps43
    go_wp2_with fail
    go_ret
    exact ⟨by rw [HS.out]; rfl, HB.out⟩
  have e2 : (x.nt == y.nt) = true := by simpa using h2
  have HS : Hid (sameV x C y D = (b1 && b2)) := hidden (by rw [← hb1, ← hb2]; unfold sameV; simp [hk, hl, h1, h2])
  clear hx hy hb1 hb2 h1 h2 hk hl
  cases b1 with
  | false =>
    go_enter Tryz.func43, Tryz.ntmps43
    go_wp2_with (go_at_call 59; (with_reducible refine (Hb1.out _ HB.out).mono ?_); rintro e w_b1 ⟨rfl, r_b1, rfl⟩; have HB_b1 := hidden (HB.out.trans ((drew_below ⟨r_b1, rfl⟩).mono HB.out.size)); clear Hb1)
    go_ret
    exact ⟨by rw [HS.out]; rfl, HB_b1.out⟩
  | true =>
    go_enter Tryz.func43, Tryz.ntmps43
    go_wp2_with (first
      | (go_at_call 59; (with_reducible refine (Hb1.out _ HB.out).mono ?_); rintro e w_b1 ⟨rfl, r_b1, rfl⟩; have HB_b1 := hidden (HB.out.trans ((drew_below ⟨r_b1, rfl⟩).mono HB.out.size)); clear Hb1)
      | (go_at_call 59; (with_reducible refine (Hb2.out _ HB_b1.out).mono ?_); rintro e w_b2 ⟨rfl, r_b2, rfl⟩; have HB_b2 := hidden (HB_b1.out.trans ((drew_below ⟨r_b2, rfl⟩).mono HB_b1.out.size)); clear Hb2)
      | fail)
    go_ret
    exact ⟨by rw [HS.out]; rfl, HB.out.trans ((drew_below ⟨_, rfl⟩).mono HB.out.size)⟩
set_option maxHeartbeats 1600000 in
set_option maxRecDepth 100000 in
theorem krsame42 (x y : Pv) (C D : Pc) (w : World) (hx0 : PvRk w x C) (hy0 : PvRk w y D) (hk : x.t = 42) (hl : y.t = 42) :
    Calls Tryz.prog 43 #[.agg #[.int .i64 42, .slice x.pr.p x.pr.n x.pr.c, .int .i64 x.eg, .slice x.ed.p x.ed.n x.ed.c, .int .i64 x.ik, .slice x.id.p x.id.n x.id.c, .int .i64 x.am, .slice x.ad.p x.ad.n x.ad.c, .int .i64 x.np, .slice x.ns.p x.ns.n x.ns.c, .int .i64 x.nt, .slice x.nd.p x.nd.n x.nd.c, .int .i64 x.dp, .slice x.ds.p x.ds.n x.ds.c, .slice x.se.p x.se.n x.se.c, .slice x.da.p x.da.n x.da.c], .agg #[.int .i64 42, .slice y.pr.p y.pr.n y.pr.c, .int .i64 y.eg, .slice y.ed.p y.ed.n y.ed.c, .int .i64 y.ik, .slice y.id.p y.id.n y.id.c, .int .i64 y.am, .slice y.ad.p y.ad.n y.ad.c, .int .i64 y.np, .slice y.ns.p y.ns.n y.ns.c, .int .i64 y.nt, .slice y.nd.p y.nd.n y.nd.c, .int .i64 y.dp, .slice y.ds.p y.ds.n y.ds.c, .slice y.se.p y.se.n y.se.c, .slice y.da.p y.da.n y.da.c]] w fun e w' => e = .returned (.bool (sameV x C y D)) ∧ Below w.heap.size w w' := by
  have hx := hx0.a42 hk
  have hy := hy0.a42 hl
  clear hx0 hy0
  have HB := hidden (below2 w (.cells #[.int .i64 42, .slice x.pr.p x.pr.n x.pr.c, .int .i64 x.eg, .slice x.ed.p x.ed.n x.ed.c, .int .i64 x.ik, .slice x.id.p x.id.n x.id.c, .int .i64 x.am, .slice x.ad.p x.ad.n x.ad.c, .int .i64 x.np, .slice x.ns.p x.ns.n x.ns.c, .int .i64 x.nt, .slice x.nd.p x.nd.n x.nd.c, .int .i64 x.dp, .slice x.ds.p x.ds.n x.ds.c, .slice x.se.p x.se.n x.se.c, .slice x.da.p x.da.n x.da.c] 56) (.cells #[.int .i64 42, .slice y.pr.p y.pr.n y.pr.c, .int .i64 y.eg, .slice y.ed.p y.ed.n y.ed.c, .int .i64 y.ik, .slice y.id.p y.id.n y.id.c, .int .i64 y.am, .slice y.ad.p y.ad.n y.ad.c, .int .i64 y.np, .slice y.ns.p y.ns.n y.ns.c, .int .i64 y.nt, .slice y.nd.p y.nd.n y.nd.c, .int .i64 y.dp, .slice y.ds.p y.ds.n y.ds.c, .slice y.se.p y.se.n y.se.c, .slice y.da.p y.da.n y.da.c] 56))
  by_cases h1 : x.dp = y.dp
  rotate_left
  · have e1 : (x.dp != y.dp) = true := by simpa using h1
    have HS : Hid (sameV x C y D = false) := hidden (by unfold sameV; simp [hk, hl, h1])
    clear hx hy h1 hk hl
    go_enter Tryz.func43, Tryz.ntmps43
    go_wp2_with fail
    go_ret
    exact ⟨by rw [HS.out]; rfl, HB.out⟩
  have HS : Hid (sameV x C y D = decide (C.ds.map Sb.xs = D.ds.map Sb.xs)) := hidden (by unfold sameV; simp [hk, hl, h1])
  have e1 : (x.dp != y.dp) = false := by simpa using h1
  have H := hidden (hx.ds.below HB.out)
  have K := hidden (hy.ds.below HB.out)
  have hn := hx.ds.le
  have hm := hy.ds.le
  have HL : Hid ((C.ds.map Sb.xs).length = x.ds.n) := hidden (by rw [List.length_map, hx.ds.len])
  have KL : Hid ((D.ds.map Sb.xs).length = y.ds.n) := hidden (by rw [List.length_map, hy.ds.len])
  clear hx hy h1 hk hl
  by_cases hnm : x.ds.n = y.ds.n
  rotate_left
  · have hne : ((x.ds.n : Int) != (y.ds.n : Int)) = true := by simp; omega
    have hd := decide_eq_false (differ_len HL.out KL.out hnm)
    clear hnm
    go_enter Tryz.func43, Tryz.ntmps43
    go_wp2
    go_ret
    exact ⟨by rw [HS.out, hd]; rfl, HB.out⟩
  have hne : ((x.ds.n : Int) != (y.ds.n : Int)) = false := by simp; omega
  have HNM := hidden hnm
  have KL2 : Hid ((D.ds.map Sb.xs).length = x.ds.n) := hidden (by rw [KL.out, hnm])
  clear hnm
  go_enter Tryz.func43, Tryz.ntmps43
  go_wp2_with fail
  go_loopw [5] (fun i wr => ∃ j : Nat, j ≤ x.ds.n ∧ i = .int .i64 j ∧ (C.ds.map Sb.xs).take j = (D.ds.map Sb.xs).take j ∧ wr.cell? ⟨w.heap.size, 13, none⟩ = some (.slice x.ds.p x.ds.n x.ds.c) ∧ wr.cell? ⟨w.heap.size + 1, 13, none⟩ = some (.slice y.ds.p y.ds.n y.ds.c) ∧ RdG KSb DSb wr x.ds.p x.ds.n x.ds.c C.ds ∧ RdG KSb DSb wr y.ds.p y.ds.n y.ds.c D.ds ∧ Below w.heap.size w wr) (fun i _ => x.ds.n - (intOf i).toNat)
  case atStart => exact ⟨0, by omega, rfl, by simp, by go_simp, by go_simp, H.out, K.out, HB.out⟩
  case round =>
    obtain ⟨j, hj, rfl, ht, f, g, hh, hk, hbel⟩ := hrel
    have HBL := hidden hbel
    have HT := hidden ht
    have HF := hidden f
    have HG := hidden g
    have H1 := hidden hh
    have K1 := hidden hk
    clear hbel ht hh hk
    by_cases hlt : ¬ j < x.ds.n
    · obtain rfl : j = x.ds.n := by omega
      have hd := decide_eq_true (take_whole HL.out KL2.out HT.out)
      go_wp2
      go_ret
      exact ⟨by rw [HS.out, hd]; rfl, HBL.out⟩
    replace hlt : j < x.ds.n := by omega
    have hlt' : (j : Int) < x.ds.n := by omega
    have hlt2 : (j : Int) < y.ds.n := by have := HNM.out; omega
    have hja : j < C.ds.length := by rw [H.out.len]; exact hlt
    have hjb : j < D.ds.length := by have := HNM.out; rw [K.out.len]; omega
    obtain ⟨ga, hga, hc, hok⟩ := H1.out.cell j hja
    obtain ⟨gb, hgb, hc2, hok2⟩ := K1.out.cell j hjb
    rw [hga] at f
    rw [hgb] at g
    obtain ⟨u, hu⟩ : ∃ u, C.ds[j] = u := ⟨_, rfl⟩
    obtain ⟨v, hv⟩ : ∃ v, D.ds[j] = v := ⟨_, rfl⟩
    have hja' : j < (C.ds.map Sb.xs).length := by rw [List.length_map]; exact hja
    have hjb' : j < (D.ds.map Sb.xs).length := by rw [List.length_map]; exact hjb
    have HNX := hidden (fun (e : u.xs = v.xs) => take_next hja' hjb' HT.out (by rw [List.getElem_map, List.getElem_map, hu, hv, e]))
    have HDF := hidden (fun (e : u.xs ≠ v.xs) => decide_eq_false (differ_at hja' hjb' (by rw [List.getElem_map, List.getElem_map, hu, hv]; exact e)))
    rw [hu] at hc hok
    rw [hv] at hc2 hok2
    have c0 := hc 0 _ rfl
    have d0 := hc2 0 _ rfl
    simp only [KSb, Nat.add_zero, Nat.mul_one] at c0 d0
    clear hc hc2
    clear hu hv hja hjb hja' hjb' HT
    obtain ⟨b, hbd⟩ : ∃ b, decide (u.xs = v.xs) = b := ⟨_, rfl⟩
    have HQ := hidden (fun a => (requal_any u.p v.p u.n u.c v.n v.c u.xs v.xs (wr.drewN a) (Byt.keep hok (fun _ _ h => h)) (Byt.keep hok2 (fun _ _ h => h))).mono (R' := fun e w' => e = .returned (.bool b) ∧ ∃ r, w' = (wr.drewN a).drewN r) (fun e w' ⟨h1, h2⟩ => ⟨by rw [h1, hbd], h2⟩))
    have HBD := hidden hbd
    clear hok hok2 hbd
    cases b with
    | true =>
      have HN := hidden (HNX.out (of_decide_eq_true HBD.out))
      clear HNX HDF
      go_wp2
      go_quiet ((go_at_call 59; (with_reducible exact Calls.quiet_of (HQ.out _))))
      go_wp2
      go_roundw
      case rel => exact ⟨j + 1, by omega, by go_num, HN.out, cell_below (drew_below (B := wr.heap.size) ⟨_, rfl⟩) _ _ HF.out, cell_below (drew_below (B := wr.heap.size) ⟨_, rfl⟩) _ _ HG.out, H1.out.below (drew_below ⟨_, rfl⟩), K1.out.below (drew_below ⟨_, rfl⟩), HBL.out.trans (drew_below ⟨_, rfl⟩)⟩
      case measure => simp [intOf]; omega
    | false =>
      have HD := hidden (HDF.out (of_decide_eq_false HBD.out))
      clear HNX HDF
      go_wp2
      go_quiet ((go_at_call 59; (with_reducible exact Calls.quiet_of (HQ.out _))))
      go_wp2
      go_ret
      exact ⟨by rw [HS.out, HD.out]; rfl, HBL.out.trans (drew_below ⟨_, rfl⟩)⟩
set_option maxHeartbeats 1600000 in
set_option maxRecDepth 100000 in
theorem krsame44 (x y : Pv) (C D : Pc) (w : World) (hx0 : PvRk w x C) (hy0 : PvRk w y D) (hk : x.t = 44) (hl : y.t = 44) :
    Calls Tryz.prog 43 #[.agg #[.int .i64 44, .slice x.pr.p x.pr.n x.pr.c, .int .i64 x.eg, .slice x.ed.p x.ed.n x.ed.c, .int .i64 x.ik, .slice x.id.p x.id.n x.id.c, .int .i64 x.am, .slice x.ad.p x.ad.n x.ad.c, .int .i64 x.np, .slice x.ns.p x.ns.n x.ns.c, .int .i64 x.nt, .slice x.nd.p x.nd.n x.nd.c, .int .i64 x.dp, .slice x.ds.p x.ds.n x.ds.c, .slice x.se.p x.se.n x.se.c, .slice x.da.p x.da.n x.da.c], .agg #[.int .i64 44, .slice y.pr.p y.pr.n y.pr.c, .int .i64 y.eg, .slice y.ed.p y.ed.n y.ed.c, .int .i64 y.ik, .slice y.id.p y.id.n y.id.c, .int .i64 y.am, .slice y.ad.p y.ad.n y.ad.c, .int .i64 y.np, .slice y.ns.p y.ns.n y.ns.c, .int .i64 y.nt, .slice y.nd.p y.nd.n y.nd.c, .int .i64 y.dp, .slice y.ds.p y.ds.n y.ds.c, .slice y.se.p y.se.n y.se.c, .slice y.da.p y.da.n y.da.c]] w fun e w' => e = .returned (.bool (sameV x C y D)) ∧ Below w.heap.size w w' := by
  have hx := hx0.a44 hk
  have hy := hy0.a44 hl
  clear hx0 hy0
  have HB := hidden (below2 w (.cells #[.int .i64 44, .slice x.pr.p x.pr.n x.pr.c, .int .i64 x.eg, .slice x.ed.p x.ed.n x.ed.c, .int .i64 x.ik, .slice x.id.p x.id.n x.id.c, .int .i64 x.am, .slice x.ad.p x.ad.n x.ad.c, .int .i64 x.np, .slice x.ns.p x.ns.n x.ns.c, .int .i64 x.nt, .slice x.nd.p x.nd.n x.nd.c, .int .i64 x.dp, .slice x.ds.p x.ds.n x.ds.c, .slice x.se.p x.se.n x.se.c, .slice x.da.p x.da.n x.da.c] 56) (.cells #[.int .i64 44, .slice y.pr.p y.pr.n y.pr.c, .int .i64 y.eg, .slice y.ed.p y.ed.n y.ed.c, .int .i64 y.ik, .slice y.id.p y.id.n y.id.c, .int .i64 y.am, .slice y.ad.p y.ad.n y.ad.c, .int .i64 y.np, .slice y.ns.p y.ns.n y.ns.c, .int .i64 y.nt, .slice y.nd.p y.nd.n y.nd.c, .int .i64 y.dp, .slice y.ds.p y.ds.n y.ds.c, .slice y.se.p y.se.n y.se.c, .slice y.da.p y.da.n y.da.c] 56))
  have HS : Hid (sameV x C y D = decide (C.se = D.se)) := hidden (by unfold sameV; simp [hk, hl])
  have HE := hidden (same5_any _ _ _ _ _ _ _ _ _ (hx.se.below HB.out) (hy.se.below HB.out))
  clear hx hy hk hl
  go_enter Tryz.func43, Tryz.ntmps43
  go_wp2_with (go_at_call 58; (with_reducible refine (HE.out).mono ?_); rintro e w1 ⟨rfl, hb⟩; have HB2 := hidden (HB.out.trans (hb.mono HB.out.size)); clear hb)
  go_ret
  exact ⟨by rw [HS.out]; rfl, HB2.out⟩
set_option maxHeartbeats 1600000 in
set_option maxRecDepth 100000 in
theorem krsame45 (x y : Pv) (C D : Pc) (w : World) (hx0 : PvRk w x C) (hy0 : PvRk w y D) (hk : x.t = 45) (hl : y.t = 45) :
    Calls Tryz.prog 43 #[.agg #[.int .i64 45, .slice x.pr.p x.pr.n x.pr.c, .int .i64 x.eg, .slice x.ed.p x.ed.n x.ed.c, .int .i64 x.ik, .slice x.id.p x.id.n x.id.c, .int .i64 x.am, .slice x.ad.p x.ad.n x.ad.c, .int .i64 x.np, .slice x.ns.p x.ns.n x.ns.c, .int .i64 x.nt, .slice x.nd.p x.nd.n x.nd.c, .int .i64 x.dp, .slice x.ds.p x.ds.n x.ds.c, .slice x.se.p x.se.n x.se.c, .slice x.da.p x.da.n x.da.c], .agg #[.int .i64 45, .slice y.pr.p y.pr.n y.pr.c, .int .i64 y.eg, .slice y.ed.p y.ed.n y.ed.c, .int .i64 y.ik, .slice y.id.p y.id.n y.id.c, .int .i64 y.am, .slice y.ad.p y.ad.n y.ad.c, .int .i64 y.np, .slice y.ns.p y.ns.n y.ns.c, .int .i64 y.nt, .slice y.nd.p y.nd.n y.nd.c, .int .i64 y.dp, .slice y.ds.p y.ds.n y.ds.c, .slice y.se.p y.se.n y.se.c, .slice y.da.p y.da.n y.da.c]] w fun e w' => e = .returned (.bool (sameV x C y D)) ∧ Below w.heap.size w w' := by
  have hx := hx0.a45 hk
  have hy := hy0.a45 hl
  clear hx0 hy0
  have HB := hidden (below2 w (.cells #[.int .i64 45, .slice x.pr.p x.pr.n x.pr.c, .int .i64 x.eg, .slice x.ed.p x.ed.n x.ed.c, .int .i64 x.ik, .slice x.id.p x.id.n x.id.c, .int .i64 x.am, .slice x.ad.p x.ad.n x.ad.c, .int .i64 x.np, .slice x.ns.p x.ns.n x.ns.c, .int .i64 x.nt, .slice x.nd.p x.nd.n x.nd.c, .int .i64 x.dp, .slice x.ds.p x.ds.n x.ds.c, .slice x.se.p x.se.n x.se.c, .slice x.da.p x.da.n x.da.c] 56) (.cells #[.int .i64 45, .slice y.pr.p y.pr.n y.pr.c, .int .i64 y.eg, .slice y.ed.p y.ed.n y.ed.c, .int .i64 y.ik, .slice y.id.p y.id.n y.id.c, .int .i64 y.am, .slice y.ad.p y.ad.n y.ad.c, .int .i64 y.np, .slice y.ns.p y.ns.n y.ns.c, .int .i64 y.nt, .slice y.nd.p y.nd.n y.nd.c, .int .i64 y.dp, .slice y.ds.p y.ds.n y.ds.c, .slice y.se.p y.se.n y.se.c, .slice y.da.p y.da.n y.da.c] 56))
  have HS : Hid (sameV x C y D = decide (C.se = D.se)) := hidden (by unfold sameV; simp [hk, hl])
  have HE := hidden (same5_any _ _ _ _ _ _ _ _ _ (hx.se.below HB.out) (hy.se.below HB.out))
  clear hx hy hk hl
  go_enter Tryz.func43, Tryz.ntmps43
  go_wp2_with (go_at_call 58; (with_reducible refine (HE.out).mono ?_); rintro e w1 ⟨rfl, hb⟩; have HB2 := hidden (HB.out.trans (hb.mono HB.out.size)); clear hb)
  go_ret
  exact ⟨by rw [HS.out]; rfl, HB2.out⟩
set_option maxHeartbeats 1600000 in
set_option maxRecDepth 100000 in
theorem krsameX (x y : Pv) (C D : Pc) (w : World) (hx0 : PvRk w x C) (hy0 : PvRk w y D) (t : Int) (hk : x.t = t) (hl : y.t = t) (hk33 : t ≠ 33) (hk34 : t ≠ 34) (hk35 : t ≠ 35) (hk36 : t ≠ 36) (hk39 : t ≠ 39) (hk41 : t ≠ 41) (hk42 : t ≠ 42) (hk44 : t ≠ 44) (hk45 : t ≠ 45) :
    Calls Tryz.prog 43 #[.agg #[.int .i64 t, .slice x.pr.p x.pr.n x.pr.c, .int .i64 x.eg, .slice x.ed.p x.ed.n x.ed.c, .int .i64 x.ik, .slice x.id.p x.id.n x.id.c, .int .i64 x.am, .slice x.ad.p x.ad.n x.ad.c, .int .i64 x.np, .slice x.ns.p x.ns.n x.ns.c, .int .i64 x.nt, .slice x.nd.p x.nd.n x.nd.c, .int .i64 x.dp, .slice x.ds.p x.ds.n x.ds.c, .slice x.se.p x.se.n x.se.c, .slice x.da.p x.da.n x.da.c], .agg #[.int .i64 t, .slice y.pr.p y.pr.n y.pr.c, .int .i64 y.eg, .slice y.ed.p y.ed.n y.ed.c, .int .i64 y.ik, .slice y.id.p y.id.n y.id.c, .int .i64 y.am, .slice y.ad.p y.ad.n y.ad.c, .int .i64 y.np, .slice y.ns.p y.ns.n y.ns.c, .int .i64 y.nt, .slice y.nd.p y.nd.n y.nd.c, .int .i64 y.dp, .slice y.ds.p y.ds.n y.ds.c, .slice y.se.p y.se.n y.se.c, .slice y.da.p y.da.n y.da.c]] w fun e w' => e = .returned (.bool (sameV x C y D)) ∧ Below w.heap.size w w' := by
  have hx := hx0.aX (by rw [hk]; exact hk33) (by rw [hk]; exact hk34) (by rw [hk]; exact hk35) (by rw [hk]; exact hk36) (by rw [hk]; exact hk39) (by rw [hk]; exact hk41) (by rw [hk]; exact hk42) (by rw [hk]; exact hk44) (by rw [hk]; exact hk45)
  have hy := hy0.aX (by rw [hl]; exact hk33) (by rw [hl]; exact hk34) (by rw [hl]; exact hk35) (by rw [hl]; exact hk36) (by rw [hl]; exact hk39) (by rw [hl]; exact hk41) (by rw [hl]; exact hk42) (by rw [hl]; exact hk44) (by rw [hl]; exact hk45)
  clear hx0 hy0
  have HB := hidden (below2 w (.cells #[.int .i64 t, .slice x.pr.p x.pr.n x.pr.c, .int .i64 x.eg, .slice x.ed.p x.ed.n x.ed.c, .int .i64 x.ik, .slice x.id.p x.id.n x.id.c, .int .i64 x.am, .slice x.ad.p x.ad.n x.ad.c, .int .i64 x.np, .slice x.ns.p x.ns.n x.ns.c, .int .i64 x.nt, .slice x.nd.p x.nd.n x.nd.c, .int .i64 x.dp, .slice x.ds.p x.ds.n x.ds.c, .slice x.se.p x.se.n x.se.c, .slice x.da.p x.da.n x.da.c] 56) (.cells #[.int .i64 t, .slice y.pr.p y.pr.n y.pr.c, .int .i64 y.eg, .slice y.ed.p y.ed.n y.ed.c, .int .i64 y.ik, .slice y.id.p y.id.n y.id.c, .int .i64 y.am, .slice y.ad.p y.ad.n y.ad.c, .int .i64 y.np, .slice y.ns.p y.ns.n y.ns.c, .int .i64 y.nt, .slice y.nd.p y.nd.n y.nd.c, .int .i64 y.dp, .slice y.ds.p y.ds.n y.ds.c, .slice y.se.p y.se.n y.se.c, .slice y.da.p y.da.n y.da.c] 56))
  have e0 : (t != t) = false := by simp
  have k33 : (t == 33) = false := by simpa using hk33
  have k34 : (t == 34) = false := by simpa using hk34
  have k35 : (t == 35) = false := by simpa using hk35
  have k36 : (t == 36) = false := by simpa using hk36
  have k39 : (t == 39) = false := by simpa using hk39
  have k41 : (t == 41) = false := by simpa using hk41
  have k42 : (t == 42) = false := by simpa using hk42
  have k44 : (t == 44) = false := by simpa using hk44
  have k45 : (t == 45) = false := by simpa using hk45
  obtain ⟨b1, hb1⟩ : ∃ b, decide (C.da = D.da) = b := ⟨_, rfl⟩
  have Hb1 := hidden (fun W (hb : Below w.heap.size w W) => requal_any _ _ _ _ _ _ _ _ W (hx.da.below hb) (hy.da.below hb))
  rw [hb1] at Hb1
  have HS : Hid (sameV x C y D = b1) := hidden (by rw [← hb1]; unfold sameV; simp [hk, hl, hk33, hk34, hk35, hk36, hk39, hk41, hk42, hk44, hk45])
  clear hx hy hb1 hk hl hk33 hk34 hk35 hk36 hk39 hk41 hk42 hk44 hk45
  go_enter Tryz.func43, Tryz.ntmps43
  go_wp2_with (go_at_call 59; (with_reducible refine (Hb1.out _ HB.out).mono ?_); rintro e w_b1 ⟨rfl, r_b1, rfl⟩; have HB_b1 := hidden (HB.out.trans ((drew_below ⟨r_b1, rfl⟩).mono HB.out.size)); clear Hb1)
  go_ret
  exact ⟨by rw [HS.out]; rfl, HB_b1.out⟩
set_option maxHeartbeats 1600000 in
set_option maxRecDepth 100000 in
theorem krsame_any (x y : Pv) (C D : Pc) (w : World) (hx : PvRk w x C) (hy : PvRk w y D) :
    Calls Tryz.prog 43 #[(.agg #[.int .i64 x.t, .slice x.pr.p x.pr.n x.pr.c, .int .i64 x.eg, .slice x.ed.p x.ed.n x.ed.c, .int .i64 x.ik, .slice x.id.p x.id.n x.id.c, .int .i64 x.am, .slice x.ad.p x.ad.n x.ad.c, .int .i64 x.np, .slice x.ns.p x.ns.n x.ns.c, .int .i64 x.nt, .slice x.nd.p x.nd.n x.nd.c, .int .i64 x.dp, .slice x.ds.p x.ds.n x.ds.c, .slice x.se.p x.se.n x.se.c, .slice x.da.p x.da.n x.da.c]), (.agg #[.int .i64 y.t, .slice y.pr.p y.pr.n y.pr.c, .int .i64 y.eg, .slice y.ed.p y.ed.n y.ed.c, .int .i64 y.ik, .slice y.id.p y.id.n y.id.c, .int .i64 y.am, .slice y.ad.p y.ad.n y.ad.c, .int .i64 y.np, .slice y.ns.p y.ns.n y.ns.c, .int .i64 y.nt, .slice y.nd.p y.nd.n y.nd.c, .int .i64 y.dp, .slice y.ds.p y.ds.n y.ds.c, .slice y.se.p y.se.n y.se.c, .slice y.da.p y.da.n y.da.c])] w fun e w' => e = .returned (.bool (sameV x C y D)) ∧ Below w.heap.size w w' := by
  by_cases ht : x.t = y.t
  rotate_left
  · have e0 : (x.t != y.t) = true := by simpa using ht
    have HS : Hid (sameV x C y D = false) := hidden (by unfold sameV; simp [ht])
    have HB := hidden (below2 w (.cells #[.int .i64 x.t, .slice x.pr.p x.pr.n x.pr.c, .int .i64 x.eg, .slice x.ed.p x.ed.n x.ed.c, .int .i64 x.ik, .slice x.id.p x.id.n x.id.c, .int .i64 x.am, .slice x.ad.p x.ad.n x.ad.c, .int .i64 x.np, .slice x.ns.p x.ns.n x.ns.c, .int .i64 x.nt, .slice x.nd.p x.nd.n x.nd.c, .int .i64 x.dp, .slice x.ds.p x.ds.n x.ds.c, .slice x.se.p x.se.n x.se.c, .slice x.da.p x.da.n x.da.c] 56) (.cells #[.int .i64 y.t, .slice y.pr.p y.pr.n y.pr.c, .int .i64 y.eg, .slice y.ed.p y.ed.n y.ed.c, .int .i64 y.ik, .slice y.id.p y.id.n y.id.c, .int .i64 y.am, .slice y.ad.p y.ad.n y.ad.c, .int .i64 y.np, .slice y.ns.p y.ns.n y.ns.c, .int .i64 y.nt, .slice y.nd.p y.nd.n y.nd.c, .int .i64 y.dp, .slice y.ds.p y.ds.n y.ds.c, .slice y.se.p y.se.n y.se.c, .slice y.da.p y.da.n y.da.c] 56))
    clear hx hy ht
    go_enter Tryz.func43, Tryz.ntmps43
    go_wp2_with fail
    go_ret
    exact ⟨by rw [HS.out]; rfl, HB.out⟩
  by_cases k33 : x.t = 33
  · have l33 : y.t = 33 := ht ▸ k33
    have := krsame33 x y C D w hx hy k33 l33
    rw [k33, l33]
    exact this
  by_cases k34 : x.t = 34
  · have l34 : y.t = 34 := ht ▸ k34
    have := krsame34 x y C D w hx hy k34 l34
    rw [k34, l34]
    exact this
  by_cases k35 : x.t = 35
  · have l35 : y.t = 35 := ht ▸ k35
    have := krsame35 x y C D w hx hy k35 l35
    rw [k35, l35]
    exact this
  by_cases k36 : x.t = 36
  · have l36 : y.t = 36 := ht ▸ k36
    have := krsame36 x y C D w hx hy k36 l36
    rw [k36, l36]
    exact this
  by_cases k39 : x.t = 39
  · have l39 : y.t = 39 := ht ▸ k39
    have := krsame39 x y C D w hx hy k39 l39
    rw [k39, l39]
    exact this
  by_cases k41 : x.t = 41
  · have l41 : y.t = 41 := ht ▸ k41
    have := krsame41 x y C D w hx hy k41 l41
    rw [k41, l41]
    exact this
  by_cases k42 : x.t = 42
  · have l42 : y.t = 42 := ht ▸ k42
    have := krsame42 x y C D w hx hy k42 l42
    rw [k42, l42]
    exact this
  by_cases k44 : x.t = 44
  · have l44 : y.t = 44 := ht ▸ k44
    have := krsame44 x y C D w hx hy k44 l44
    rw [k44, l44]
    exact this
  by_cases k45 : x.t = 45
  · have l45 : y.t = 45 := ht ▸ k45
    have := krsame45 x y C D w hx hy k45 l45
    rw [k45, l45]
    exact this
  have := krsameX x y C D w hx hy x.t rfl ht.symm k33 k34 k35 k36 k39 k41 k42 k44 k45
  rw [← ht]
  exact this
end Go.Proofs.YtnbkffehhahckaaGreat

namespace Go.Proofs.YtnbkffehhahckaaGreat
open Go.RowKit
set_option linter.unusedVariables false
structure Ntf where
  np : Int
  s : Sv
  nt : Int
  d : Sv
def KNt : KindR Ntf where
  e := 50
  k := 4
  cs x := [.int .i64 x.np, .slice x.s.p x.s.n x.s.c, .int .i64 x.nt, .slice x.d.p x.d.n x.d.c]
  len _ := rfl
  one x u hu := by
    simp at hu
    rcases hu with rfl | rfl | rfl | rfl <;> rfl
  pos := by decide
def NNt : NestR Ntf where
  ts := []
  ok _ _ _ := True
  keep _ _ _ := trivial
  mono _ _ := trivial
theorem Tryz.infoNt : (Tryz.prog.info? 50).map (fun i => (i.zero, i.size, i.bytes)) = some (some (.agg #[.int .i64 0, .slice none 0 0, .int .i64 0, .slice none 0 0]), 4, 64) := by kernel_rfl
theorem knownNt : KnownR Tryz.prog KNt 122 64 := by
  refine ⟨Tryz.underlying122, ?_⟩
  obtain ⟨i0, hi, hz0, hz1, hz2⟩ := info_parts Tryz.infoNt
  exact ⟨i0, _, hi, hz0, hz1, hz2, rfl⟩
theorem srcNt (w : World) (x : Ntf) (T : TypeId) : SrcG KNt (w.alloc (.cells #[.int .i64 x.np, .slice x.s.p x.s.n x.s.c, .int .i64 x.nt, .slice x.d.p x.d.n x.d.c] T)) (some ⟨w.heap.size, 0, none⟩) 1 [x] := SrcG.new KNt w [x] T
def isNote (kind : Int) (x : Pv) : Bool := x.t == 41 && x.nt == kind
set_option maxHeartbeats 6400000 in
set_option maxRecDepth 100000 in
theorem notes_any (i r nx x f m : Int) (p : Option Addr) (n c : Nat) (l : List Pv) (kind : Int) (w : World) (h : RdG KPv DPv w p n c l) (hn : n ≤ 100000) :
    Calls Tryz.prog 53 #[.agg #[.int .u64 i, .int .u64 r, .int .i64 nx, .int .i64 x, .int .i64 f, .int .u32 m, .slice p n c], .int .i64 kind] w fun e w' => (∃ (p' : Option Addr) (n' c' : Nat), e = .returned (.slice p' n' c') ∧ decide (0 < n') = l.any (isNote kind) ∧ n' ≤ n) ∧ Below w.heap.size w w' := by
  have HBX := hidden ((Below.refl w.heap.size w).alloc (Nat.le_refl _) (.cells #[.int .u64 i, .int .u64 r, .int .i64 nx, .int .i64 x, .int .i64 f, .int .u32 m, .slice p n c] 30))
  have H := hidden h
  obtain ⟨R, hR⟩ : ∃ R, l.any (isNote kind) = R := ⟨_, rfl⟩
  have HR : Is (decide (0 < ([] : List Ntf).length) || (l.drop 0).any (isNote kind)) R := ⟨by simpa using hR⟩
  rw [hR]
  clear hR h
  go_enter Tryz.func53, Tryz.ntmps53
  go_wp2_with fail
  go_loopw [5, 11] (fun v i wr => ∃ (j : Nat) (L : List Ntf), j ≤ n ∧ i = .int .i64 j ∧ RowG KNt NNt wr w.heap.size v L ∧ L.length ≤ j ∧ Is (decide (0 < L.length) || (l.drop j).any (isNote kind)) R ∧ Below w.heap.size w wr) (fun _ i _ => n - (intOf i).toNat)
  case atStart => exact ⟨0, [], by omega, rfl, RowG.nil _ _ _ _, by simp, HR, HBX.out⟩
  case round =>
    obtain ⟨j, L, hj, rfl, hrow, hlj, hrel, hb⟩ := hrel
    have HB := hidden hb
    have HRW := hidden hrow
    clear hb hrow
    by_cases hlt : j < n
    · have hlt' : (j : Int) < n := by omega
      obtain ⟨g, y, rfl, hx, hdr, hok, hc⟩ := (H.out.below HB.out).drop_cons hlt
      have c0 := hc 0 _ rfl
      have c1 := hc 1 _ rfl
      have c2 := hc 2 _ rfl
      have c3 := hc 3 _ rfl
      have c4 := hc 4 _ rfl
      have c5 := hc 5 _ rfl
      have c6 := hc 6 _ rfl
      have c7 := hc 7 _ rfl
      have c8 := hc 8 _ rfl
      have c9 := hc 9 _ rfl
      have c10 := hc 10 _ rfl
      have c11 := hc 11 _ rfl
      have c12 := hc 12 _ rfl
      have c13 := hc 13 _ rfl
      have c14 := hc 14 _ rfl
      have c15 := hc 15 _ rfl
      simp only [Nat.add_zero] at c0
      have hf := hrel.eq
      rw [hdr, List.any_cons] at hf
      have HBP := hidden ((Below.refl wr.heap.size wr).alloc (Nat.le_refl _) (.cells #[.int .i64 y.t, .slice y.pr.p y.pr.n y.pr.c, .int .i64 y.eg, .slice y.ed.p y.ed.n y.ed.c, .int .i64 y.ik, .slice y.id.p y.id.n y.id.c, .int .i64 y.am, .slice y.ad.p y.ad.n y.ad.c, .int .i64 y.np, .slice y.ns.p y.ns.n y.ns.c, .int .i64 y.nt, .slice y.nd.p y.nd.n y.nd.c, .int .i64 y.dp, .slice y.ds.p y.ds.n y.ds.c, .slice y.se.p y.se.n y.se.c, .slice y.da.p y.da.n y.da.c] 56))
      have HRP := hidden (HRW.out.below HBP.out)
      have HOK := hidden hok
      clear hok hrel hdr hx hc
      have hskip : isNote kind y = false → Is (decide (0 < L.length) || (l.drop (j + 1)).any (isNote kind)) R := fun e => ⟨by rw [e, Bool.false_or] at hf; exact hf⟩
      have hHIT : isNote kind y = true → Is (true) R := fun e => ⟨by rw [e] at hf; simpa using hf⟩
      have HSK := hidden hskip
      have HHT := hidden hHIT
      clear hf hskip hHIT
      by_cases h1 : y.t = 41
      · by_cases h2 : y.nt = kind
        · have HT := HHT.out (by simp [isNote, h1, h2])
          obtain ⟨xs, hns⟩ := HOK.out.ns h1
          obtain ⟨ys, hnd⟩ := HOK.out.nd h1
          have hsn := HOK.out.sn h1
          have hdn := HOK.out.dn h1
          have HCN := hidden (fun W (hW : Below wr.heap.size wr W) => copiedNote_any y.np y.nt y.ns.p y.nd.p y.ns.n y.ns.c y.nd.n y.nd.c xs ys W (hns.below hW) (hnd.below hW) hsn hdn)
          clear hns hnd hsn hdn HOK
          have q1 : (y.t == 41) = true := by simp [h1]
          have q2 : (y.nt == kind) = true := by simp [h2]
          clear HSK HHT h1 h2
          go_wp2_with (first
            | (go_at_call 71; (with_reducible refine (HCN.out _ HBP.out).mono ?_); rintro _ w1 ⟨⟨p1, p2, e1, e2, rfl⟩, hb1⟩; have HB1 := hidden (HB.out.trans ((HBP.out.trans (hb1.mono HBP.out.size)).mono HB.out.size)); have HR1 := hidden (HRP.out.below hb1); clear hb1)
            | (at_builtin; go_loud (refine wpList_append_g knownNt (by simp [NNt]) _ rfl _ _ rfl w.heap.size _ L rfl (HR1.out.alloc _) _ 1 1 [⟨y.np, ⟨p1, y.ns.n, e1⟩, y.nt, ⟨p2, y.nd.n, e2⟩⟩] rfl (srcNt w1 ⟨y.np, ⟨p1, y.ns.n, e1⟩, y.nt, ⟨p2, y.nd.n, e2⟩⟩ _) (fun x hx => trivial) ?b1 ?b2 ?b3 ?_))
            | fail)
          case b1 => unfold maxLen; omega
          case b2 => omega
          case b3 => simp; have := HB1.out.size; omega
          intro v6 w6 hrow6 hg6
          have HR6 := hidden hrow6
          have HB6 := hidden ((HB1.out.alloc HB1.out.size (.cells #[.int .i64 y.np, .slice p1 y.ns.n e1, .int .i64 y.nt, .slice p2 y.nd.n e2] 50)).grown hg6 (Nat.le_trans HB1.out.size (by simp)) (fun k hk => (HR1.out.lt k hk).1))
          clear hrow6 hg6
          go_wp2
          go_roundw
          case rel => exact ⟨j + 1, _, by omega, by go_num, HR6.out, by simp; omega, ⟨by rw [← HT.eq]; simp⟩, HB6.out⟩
          case measure => simp [intOf]; omega
        · have HT := HSK.out (by simp [isNote, h2])
          have q1 : (y.t == 41) = true := by simp [h1]
          have q2 : (y.nt == kind) = false := by simp [h2]
          clear HSK HHT h1 h2
          go_wp2
          go_roundw
          case rel => exact ⟨j + 1, L, by omega, by go_num, HRP.out, by omega, HT, HB.out.trans (HBP.out.mono HB.out.size)⟩
          case measure => simp [intOf]; omega
      · have HT := HSK.out (by simp [isNote, h1])
        have q1 : (y.t == 41) = false := by simp [h1]
        clear HSK HHT h1
        go_wp2
        go_roundw
        case rel => exact ⟨j + 1, L, by omega, by go_num, HRP.out, by omega, HT, HB.out.trans (HBP.out.mono HB.out.size)⟩
        case measure => simp [intOf]; omega
    · have hlt' : ¬ (j : Int) < n := by omega
      have hd : l.drop j = [] := List.drop_eq_nil_of_le (by rw [H.out.len]; omega)
      have hf := hrel.eq
      rw [hd, List.any_nil, Bool.or_false] at hf
      obtain ⟨q, d, rfl⟩ := HRW.out.form rfl
      have HF := hidden hf
      clear hf hd hrel
      go_wp2
      go_ret
      exact ⟨⟨q, L.length, ⟨d, rfl⟩, HF.out, Nat.le_trans hlj hj⟩, HB.out⟩
end Go.Proofs.YtnbkffehhahckaaGreat
