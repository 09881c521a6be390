/-
  Package payload's reader of plain data.
  Package payload's Parse of the type 33, given what the reader returns.
  Package payload's Parse of the type 34, given what the reader returns.
  Package payload's Parse of the type 35, given what the reader returns.
  Package payload's Parse of the type 36, given what the reader returns.
  Package payload's Parse of the type 37, given what the reader returns.
  Package payload's Parse of the type 39, given what the reader returns.
  Package payload's Parse of the type 40, given what the reader returns.
  Package payload's Parse of the type 41, given what the reader returns.
  Package payload's Parse of the type 42, given what the reader returns.
  Package payload's Parse of the type 43, given what the reader returns.
  Package payload's Parse of the type 44, given what the reader returns.
  Package payload's Parse of the type 45, given what the reader returns.
  What the laws on payloads share: the example of the chapter.
  What Change makes of a list of bytes: other bytes, or the same.
  What Mod returns: the remainder that is not below zero.
-/
import Derived.Test.YtbpmanbpmlkmnaaGreatDoorMZ9
import Derived.Test.YtbpmanbpmlkmnaaGreatDoorMZ5
import Derived.Test.YtbpmanbpmlkmnaaGreatDoorMZ1
import Derived.Test.YtbpmanbpmlkmnaaGreatDoorMZ0
import Derived.Test.YtbpmanbpmlkmnaaGreatDoorRows
import Derived.Deep.RegionWith
import Derived.BigRegion
namespace Go.Proofs.YtbpmanbpmlkmnaaGreatDoor
open Go.RowKit
set_option linter.unusedVariables false

set_option maxHeartbeats 800000 in
set_option maxRecDepth 100000 in
theorem data_read (p : Option Addr) (n c : Nat) (xs : List Int) (w : World) (h : Byt w p n c xs) (hb : n ≤ 140737488355328) :
    Calls Tryz.prog 49 #[.slice p n c] w (ReadPv w 0 fun w' x => FrV w' w.heap.size x.da xs) := by
  have hn := h.le
  have H1 := hidden (h.alloc (.cells #[.int .i64 0, .slice none 0 0, .int .i64 0, .slice none 0 0, .int .i64 0, .slice none 0 0, .int .i64 0, .slice none 0 0, .int .i64 0, .slice none 0 0, .int .i64 0, .slice none 0 0, .int .i64 0, .slice none 0 0, .slice none 0 0, .slice none 0 0] 45))
  have HB := hidden ((Below.refl w.heap.size w).alloc (Nat.le_refl _) (.cells #[.int .i64 0, .slice none 0 0, .int .i64 0, .slice none 0 0, .int .i64 0, .slice none 0 0, .int .i64 0, .slice none 0 0, .int .i64 0, .slice none 0 0, .int .i64 0, .slice none 0 0, .int .i64 0, .slice none 0 0, .slice none 0 0, .slice none 0 0] 45))
  have HZ : Hid (PvIn (w.alloc (.cells #[.int .i64 0, .slice none 0 0, .int .i64 0, .slice none 0 0, .int .i64 0, .slice none 0 0, .int .i64 0, .slice none 0 0, .int .i64 0, .slice none 0 0, .int .i64 0, .slice none 0 0, .int .i64 0, .slice none 0 0, .slice none 0 0, .slice none 0 0] 45)) w.heap.size zeroP) := hidden (PvIn.new w zeroP 45)
  have HL := hidden h.len
  have HR := hidden h.rng
  clear h
  go_enter Tryz.func49, Tryz.ntmps49
  go_wp2_with (first
    | (go_at_call 73; (with_reducible refine (cloneB_any _ _ _ _ _ H1.out hb).mono ?_); rintro e w2 ⟨v2, rfl, ho, hbc⟩; obtain ⟨q2, d2, rfl, hf0⟩ := ho.frs HL.out HR.out; have HF0 := hidden hf0; have HB2 := hidden (HB.out.trans (hbc.mono HB.out.size)); have HZ2 := hidden (HZ.out.below hbc); obtain ⟨z0, z1, z2, z3, z4, z5, z6, z7, z8, z9, z10, z11, z12, z13, z14, z15, zf⟩ := HZ2.out; clear ho hbc hf0)
    | fail)
  have hlo := setPv_grown w2 w.heap.size ⟨0, nilV, 0, nilV, 0, nilV, 0, nilV, 0, nilV, 0, nilV, 0, nilV, nilV, ⟨q2, n, d2⟩⟩
  have hz := setPv_in HZ2.out ⟨0, nilV, 0, nilV, 0, nilV, 0, nilV, 0, nilV, 0, nilV, 0, nilV, nilV, ⟨q2, n, d2⟩⟩
  have hfl := (HF0.out.low hlo (by simp)).mono (show w.heap.size ≤ _ from HB.out.size)
  have HBS := hidden (HB2.out.grown hlo HB2.out.size (fun j hj => by cases hj; exact Nat.le_refl _))
  simp only [setPv, nilV] at hz hfl HBS
  have HZZ := hidden hz
  have HFF := hidden hfl
  clear hz hfl hlo
  refine ret_pv (g := w.heap.size) rfl rfl rfl rfl HZZ.out ?_
  exact ⟨_, rfl, HBS.out, fun _ => HFF.out⟩

end Go.Proofs.YtbpmanbpmlkmnaaGreatDoor

namespace Go.Proofs.YtbpmanbpmlkmnaaGreatDoor
open Go.RowKit
set_option linter.unusedVariables false

theorem reader_33 (p : Option Addr) (n c : Nat) (w : World) :
    Calls Tryz.prog 19 #[.slice p n c, .int .i64 33] w fun e w' => e = .returned (.func (.func 41) #[.slice p n c] #[]) ∧ w = w' := by
  go_enter Tryz.func19, Tryz.ntmps19
  go_wp2
  go_ret
  exact ⟨rfl, rfl⟩

set_option maxHeartbeats 1600000 in
set_option maxRecDepth 100000 in
theorem pparse_33 (p : Option Addr) (n c : Nat) (xs : List Int) (cr : Bool) (E : Int) (G : Gd) (w : World) (h : Byt w p n c xs) (HRD : ∀ w, Byt w p n c xs → Calls Tryz.prog 41 #[.slice p n c] w (ReadPv w E (fun w' x => G.ok w.heap.size w' x))) :
    Calls Tryz.prog 10 #[.agg #[.int .i64 33, .bool cr, .slice p n c]] w (ParsedV w 33 E G) := by
  have HX := hidden ((h.alloc (.cells #[.int .i64 33, .bool cr, .slice p n c] 27)).alloc (.cells #[.int .i64 0, .slice none 0 0, .int .i64 0, .slice none 0 0, .int .i64 0, .slice none 0 0, .int .i64 0, .slice none 0 0, .int .i64 0, .slice none 0 0, .int .i64 0, .slice none 0 0, .int .i64 0, .slice none 0 0, .slice none 0 0, .slice none 0 0] 45))
  have HB := hidden (((Below.refl w.heap.size w).alloc (Nat.le_refl _) (.cells #[.int .i64 33, .bool cr, .slice p n c] 27)).alloc (by simp) (.cells #[.int .i64 0, .slice none 0 0, .int .i64 0, .slice none 0 0, .int .i64 0, .slice none 0 0, .int .i64 0, .slice none 0 0, .int .i64 0, .slice none 0 0, .int .i64 0, .slice none 0 0, .int .i64 0, .slice none 0 0, .slice none 0 0, .slice none 0 0] 45))
  have HZ : Hid (PvIn ((w.alloc (.cells #[.int .i64 33, .bool cr, .slice p n c] 27)).alloc (.cells #[.int .i64 0, .slice none 0 0, .int .i64 0, .slice none 0 0, .int .i64 0, .slice none 0 0, .int .i64 0, .slice none 0 0, .int .i64 0, .slice none 0 0, .int .i64 0, .slice none 0 0, .int .i64 0, .slice none 0 0, .slice none 0 0, .slice none 0 0] 45)) (w.heap.size + 1) zeroP) := hidden (by
    have := PvIn.new (w.alloc (.cells #[.int .i64 33, .bool cr, .slice p n c] 27)) zeroP 45
    simpa [zeroP, nilV] using this)
  have HW0 := hidden (show ((w.alloc (.cells #[.int .i64 33, .bool cr, .slice p n c] 27)).alloc (.cells #[.int .i64 0, .slice none 0 0, .int .i64 0, .slice none 0 0, .int .i64 0, .slice none 0 0, .int .i64 0, .slice none 0 0, .int .i64 0, .slice none 0 0, .int .i64 0, .slice none 0 0, .int .i64 0, .slice none 0 0, .slice none 0 0, .slice none 0 0] 45)).cell? ⟨w.heap.size, 0, none⟩ = some (.int .i64 33) by go_simp)
  have HSZ := hidden (show ((w.alloc (.cells #[.int .i64 33, .bool cr, .slice p n c] 27)).alloc (.cells #[.int .i64 0, .slice none 0 0, .int .i64 0, .slice none 0 0, .int .i64 0, .slice none 0 0, .int .i64 0, .slice none 0 0, .int .i64 0, .slice none 0 0, .int .i64 0, .slice none 0 0, .int .i64 0, .slice none 0 0, .slice none 0 0, .slice none 0 0] 45)).heap.size = w.heap.size + 1 + 1 by simp)
  have HR := hidden HRD
  clear h HRD
  go_enter Tryz.func10, Tryz.ntmps10
  go_upto_region 3 with (first
    | (go_at_call 19; (with_reducible refine (reader_33 _ _ _ _).mono ?_); rintro e w' ⟨rfl, rfl⟩)
    | (go_at_call 41; (with_reducible refine (HR.out _ HX.out).mono ?_); rintro e w2 ⟨x, rfl, hb2, hgood⟩; have HBA := hidden (HB.out.trans (hb2.mono HB.out.size)); have HZA := hidden (HZ.out.below hb2); have HGO := hidden hgood; have HDA := hidden (cell_below hb2 _ _ HW0.out); have d0 := cell_below ((Below.refl _ w2).alloc (Nat.le_refl _) (.cells #[.int .i64 x.t, .slice x.pr.p x.pr.n x.pr.c, .int .i64 x.eg, .slice x.ed.p x.ed.n x.ed.c, .int .i64 x.ik, .slice x.id.p x.id.n x.id.c, .int .i64 x.am, .slice x.ad.p x.ad.n x.ad.c, .int .i64 x.np, .slice x.ns.p x.ns.n x.ns.c, .int .i64 x.nt, .slice x.nd.p x.nd.n x.nd.c, .int .i64 x.dp, .slice x.ds.p x.ds.n x.ds.c, .slice x.se.p x.se.n x.se.c, .slice x.da.p x.da.n x.da.c] 45)) _ _ HDA.out; have HSB := hidden hb2.size; clear hb2 hgood)
    | fail)
  have hsb := HSB.out
  rw [HSZ.out] at hsb
  have hne1 : ¬ w2.heap.size = w.heap.size + 1 := by omega
  have hne2 : ¬ w.heap.size + 1 = w2.heap.size := by omega
  by_cases hE : E = 0
  · subst hE
    have hk3 := PvIn.new w2 { x with t := 33 } 45
    have hz3 := HZA.out.alloc (.cells #[.int .i64 (Pv.mk 33 x.pr x.eg x.ed x.ik x.id x.am x.ad x.np x.ns x.nt x.nd x.dp x.ds x.se x.da).t, .slice (Pv.mk 33 x.pr x.eg x.ed x.ik x.id x.am x.ad x.np x.ns x.nt x.nd x.dp x.ds x.se x.da).pr.p (Pv.mk 33 x.pr x.eg x.ed x.ik x.id x.am x.ad x.np x.ns x.nt x.nd x.dp x.ds x.se x.da).pr.n (Pv.mk 33 x.pr x.eg x.ed x.ik x.id x.am x.ad x.np x.ns x.nt x.nd x.dp x.ds x.se x.da).pr.c, .int .i64 (Pv.mk 33 x.pr x.eg x.ed x.ik x.id x.am x.ad x.np x.ns x.nt x.nd x.dp x.ds x.se x.da).eg, .slice (Pv.mk 33 x.pr x.eg x.ed x.ik x.id x.am x.ad x.np x.ns x.nt x.nd x.dp x.ds x.se x.da).ed.p (Pv.mk 33 x.pr x.eg x.ed x.ik x.id x.am x.ad x.np x.ns x.nt x.nd x.dp x.ds x.se x.da).ed.n (Pv.mk 33 x.pr x.eg x.ed x.ik x.id x.am x.ad x.np x.ns x.nt x.nd x.dp x.ds x.se x.da).ed.c, .int .i64 (Pv.mk 33 x.pr x.eg x.ed x.ik x.id x.am x.ad x.np x.ns x.nt x.nd x.dp x.ds x.se x.da).ik, .slice (Pv.mk 33 x.pr x.eg x.ed x.ik x.id x.am x.ad x.np x.ns x.nt x.nd x.dp x.ds x.se x.da).id.p (Pv.mk 33 x.pr x.eg x.ed x.ik x.id x.am x.ad x.np x.ns x.nt x.nd x.dp x.ds x.se x.da).id.n (Pv.mk 33 x.pr x.eg x.ed x.ik x.id x.am x.ad x.np x.ns x.nt x.nd x.dp x.ds x.se x.da).id.c, .int .i64 (Pv.mk 33 x.pr x.eg x.ed x.ik x.id x.am x.ad x.np x.ns x.nt x.nd x.dp x.ds x.se x.da).am, .slice (Pv.mk 33 x.pr x.eg x.ed x.ik x.id x.am x.ad x.np x.ns x.nt x.nd x.dp x.ds x.se x.da).ad.p (Pv.mk 33 x.pr x.eg x.ed x.ik x.id x.am x.ad x.np x.ns x.nt x.nd x.dp x.ds x.se x.da).ad.n (Pv.mk 33 x.pr x.eg x.ed x.ik x.id x.am x.ad x.np x.ns x.nt x.nd x.dp x.ds x.se x.da).ad.c, .int .i64 (Pv.mk 33 x.pr x.eg x.ed x.ik x.id x.am x.ad x.np x.ns x.nt x.nd x.dp x.ds x.se x.da).np, .slice (Pv.mk 33 x.pr x.eg x.ed x.ik x.id x.am x.ad x.np x.ns x.nt x.nd x.dp x.ds x.se x.da).ns.p (Pv.mk 33 x.pr x.eg x.ed x.ik x.id x.am x.ad x.np x.ns x.nt x.nd x.dp x.ds x.se x.da).ns.n (Pv.mk 33 x.pr x.eg x.ed x.ik x.id x.am x.ad x.np x.ns x.nt x.nd x.dp x.ds x.se x.da).ns.c, .int .i64 (Pv.mk 33 x.pr x.eg x.ed x.ik x.id x.am x.ad x.np x.ns x.nt x.nd x.dp x.ds x.se x.da).nt, .slice (Pv.mk 33 x.pr x.eg x.ed x.ik x.id x.am x.ad x.np x.ns x.nt x.nd x.dp x.ds x.se x.da).nd.p (Pv.mk 33 x.pr x.eg x.ed x.ik x.id x.am x.ad x.np x.ns x.nt x.nd x.dp x.ds x.se x.da).nd.n (Pv.mk 33 x.pr x.eg x.ed x.ik x.id x.am x.ad x.np x.ns x.nt x.nd x.dp x.ds x.se x.da).nd.c, .int .i64 (Pv.mk 33 x.pr x.eg x.ed x.ik x.id x.am x.ad x.np x.ns x.nt x.nd x.dp x.ds x.se x.da).dp, .slice (Pv.mk 33 x.pr x.eg x.ed x.ik x.id x.am x.ad x.np x.ns x.nt x.nd x.dp x.ds x.se x.da).ds.p (Pv.mk 33 x.pr x.eg x.ed x.ik x.id x.am x.ad x.np x.ns x.nt x.nd x.dp x.ds x.se x.da).ds.n (Pv.mk 33 x.pr x.eg x.ed x.ik x.id x.am x.ad x.np x.ns x.nt x.nd x.dp x.ds x.se x.da).ds.c, .slice (Pv.mk 33 x.pr x.eg x.ed x.ik x.id x.am x.ad x.np x.ns x.nt x.nd x.dp x.ds x.se x.da).se.p (Pv.mk 33 x.pr x.eg x.ed x.ik x.id x.am x.ad x.np x.ns x.nt x.nd x.dp x.ds x.se x.da).se.n (Pv.mk 33 x.pr x.eg x.ed x.ik x.id x.am x.ad x.np x.ns x.nt x.nd x.dp x.ds x.se x.da).se.c, .slice (Pv.mk 33 x.pr x.eg x.ed x.ik x.id x.am x.ad x.np x.ns x.nt x.nd x.dp x.ds x.se x.da).da.p (Pv.mk 33 x.pr x.eg x.ed x.ik x.id x.am x.ad x.np x.ns x.nt x.nd x.dp x.ds x.se x.da).da.n (Pv.mk 33 x.pr x.eg x.ed x.ik x.id x.am x.ad x.np x.ns x.nt x.nd x.dp x.ds x.se x.da).da.c] 45)
    have hb3 := HBA.out.alloc HBA.out.size (.cells #[.int .i64 (Pv.mk 33 x.pr x.eg x.ed x.ik x.id x.am x.ad x.np x.ns x.nt x.nd x.dp x.ds x.se x.da).t, .slice (Pv.mk 33 x.pr x.eg x.ed x.ik x.id x.am x.ad x.np x.ns x.nt x.nd x.dp x.ds x.se x.da).pr.p (Pv.mk 33 x.pr x.eg x.ed x.ik x.id x.am x.ad x.np x.ns x.nt x.nd x.dp x.ds x.se x.da).pr.n (Pv.mk 33 x.pr x.eg x.ed x.ik x.id x.am x.ad x.np x.ns x.nt x.nd x.dp x.ds x.se x.da).pr.c, .int .i64 (Pv.mk 33 x.pr x.eg x.ed x.ik x.id x.am x.ad x.np x.ns x.nt x.nd x.dp x.ds x.se x.da).eg, .slice (Pv.mk 33 x.pr x.eg x.ed x.ik x.id x.am x.ad x.np x.ns x.nt x.nd x.dp x.ds x.se x.da).ed.p (Pv.mk 33 x.pr x.eg x.ed x.ik x.id x.am x.ad x.np x.ns x.nt x.nd x.dp x.ds x.se x.da).ed.n (Pv.mk 33 x.pr x.eg x.ed x.ik x.id x.am x.ad x.np x.ns x.nt x.nd x.dp x.ds x.se x.da).ed.c, .int .i64 (Pv.mk 33 x.pr x.eg x.ed x.ik x.id x.am x.ad x.np x.ns x.nt x.nd x.dp x.ds x.se x.da).ik, .slice (Pv.mk 33 x.pr x.eg x.ed x.ik x.id x.am x.ad x.np x.ns x.nt x.nd x.dp x.ds x.se x.da).id.p (Pv.mk 33 x.pr x.eg x.ed x.ik x.id x.am x.ad x.np x.ns x.nt x.nd x.dp x.ds x.se x.da).id.n (Pv.mk 33 x.pr x.eg x.ed x.ik x.id x.am x.ad x.np x.ns x.nt x.nd x.dp x.ds x.se x.da).id.c, .int .i64 (Pv.mk 33 x.pr x.eg x.ed x.ik x.id x.am x.ad x.np x.ns x.nt x.nd x.dp x.ds x.se x.da).am, .slice (Pv.mk 33 x.pr x.eg x.ed x.ik x.id x.am x.ad x.np x.ns x.nt x.nd x.dp x.ds x.se x.da).ad.p (Pv.mk 33 x.pr x.eg x.ed x.ik x.id x.am x.ad x.np x.ns x.nt x.nd x.dp x.ds x.se x.da).ad.n (Pv.mk 33 x.pr x.eg x.ed x.ik x.id x.am x.ad x.np x.ns x.nt x.nd x.dp x.ds x.se x.da).ad.c, .int .i64 (Pv.mk 33 x.pr x.eg x.ed x.ik x.id x.am x.ad x.np x.ns x.nt x.nd x.dp x.ds x.se x.da).np, .slice (Pv.mk 33 x.pr x.eg x.ed x.ik x.id x.am x.ad x.np x.ns x.nt x.nd x.dp x.ds x.se x.da).ns.p (Pv.mk 33 x.pr x.eg x.ed x.ik x.id x.am x.ad x.np x.ns x.nt x.nd x.dp x.ds x.se x.da).ns.n (Pv.mk 33 x.pr x.eg x.ed x.ik x.id x.am x.ad x.np x.ns x.nt x.nd x.dp x.ds x.se x.da).ns.c, .int .i64 (Pv.mk 33 x.pr x.eg x.ed x.ik x.id x.am x.ad x.np x.ns x.nt x.nd x.dp x.ds x.se x.da).nt, .slice (Pv.mk 33 x.pr x.eg x.ed x.ik x.id x.am x.ad x.np x.ns x.nt x.nd x.dp x.ds x.se x.da).nd.p (Pv.mk 33 x.pr x.eg x.ed x.ik x.id x.am x.ad x.np x.ns x.nt x.nd x.dp x.ds x.se x.da).nd.n (Pv.mk 33 x.pr x.eg x.ed x.ik x.id x.am x.ad x.np x.ns x.nt x.nd x.dp x.ds x.se x.da).nd.c, .int .i64 (Pv.mk 33 x.pr x.eg x.ed x.ik x.id x.am x.ad x.np x.ns x.nt x.nd x.dp x.ds x.se x.da).dp, .slice (Pv.mk 33 x.pr x.eg x.ed x.ik x.id x.am x.ad x.np x.ns x.nt x.nd x.dp x.ds x.se x.da).ds.p (Pv.mk 33 x.pr x.eg x.ed x.ik x.id x.am x.ad x.np x.ns x.nt x.nd x.dp x.ds x.se x.da).ds.n (Pv.mk 33 x.pr x.eg x.ed x.ik x.id x.am x.ad x.np x.ns x.nt x.nd x.dp x.ds x.se x.da).ds.c, .slice (Pv.mk 33 x.pr x.eg x.ed x.ik x.id x.am x.ad x.np x.ns x.nt x.nd x.dp x.ds x.se x.da).se.p (Pv.mk 33 x.pr x.eg x.ed x.ik x.id x.am x.ad x.np x.ns x.nt x.nd x.dp x.ds x.se x.da).se.n (Pv.mk 33 x.pr x.eg x.ed x.ik x.id x.am x.ad x.np x.ns x.nt x.nd x.dp x.ds x.se x.da).se.c, .slice (Pv.mk 33 x.pr x.eg x.ed x.ik x.id x.am x.ad x.np x.ns x.nt x.nd x.dp x.ds x.se x.da).da.p (Pv.mk 33 x.pr x.eg x.ed x.ik x.id x.am x.ad x.np x.ns x.nt x.nd x.dp x.ds x.se x.da).da.n (Pv.mk 33 x.pr x.eg x.ed x.ik x.id x.am x.ad x.np x.ns x.nt x.nd x.dp x.ds x.se x.da).da.c] 45)
    have hg3 := G.keep (HGO.out rfl) (fun a v ha hc => cell_below ((Below.refl _ w2).alloc (Nat.le_refl _) (.cells #[.int .i64 (Pv.mk 33 x.pr x.eg x.ed x.ik x.id x.am x.ad x.np x.ns x.nt x.nd x.dp x.ds x.se x.da).t, .slice (Pv.mk 33 x.pr x.eg x.ed x.ik x.id x.am x.ad x.np x.ns x.nt x.nd x.dp x.ds x.se x.da).pr.p (Pv.mk 33 x.pr x.eg x.ed x.ik x.id x.am x.ad x.np x.ns x.nt x.nd x.dp x.ds x.se x.da).pr.n (Pv.mk 33 x.pr x.eg x.ed x.ik x.id x.am x.ad x.np x.ns x.nt x.nd x.dp x.ds x.se x.da).pr.c, .int .i64 (Pv.mk 33 x.pr x.eg x.ed x.ik x.id x.am x.ad x.np x.ns x.nt x.nd x.dp x.ds x.se x.da).eg, .slice (Pv.mk 33 x.pr x.eg x.ed x.ik x.id x.am x.ad x.np x.ns x.nt x.nd x.dp x.ds x.se x.da).ed.p (Pv.mk 33 x.pr x.eg x.ed x.ik x.id x.am x.ad x.np x.ns x.nt x.nd x.dp x.ds x.se x.da).ed.n (Pv.mk 33 x.pr x.eg x.ed x.ik x.id x.am x.ad x.np x.ns x.nt x.nd x.dp x.ds x.se x.da).ed.c, .int .i64 (Pv.mk 33 x.pr x.eg x.ed x.ik x.id x.am x.ad x.np x.ns x.nt x.nd x.dp x.ds x.se x.da).ik, .slice (Pv.mk 33 x.pr x.eg x.ed x.ik x.id x.am x.ad x.np x.ns x.nt x.nd x.dp x.ds x.se x.da).id.p (Pv.mk 33 x.pr x.eg x.ed x.ik x.id x.am x.ad x.np x.ns x.nt x.nd x.dp x.ds x.se x.da).id.n (Pv.mk 33 x.pr x.eg x.ed x.ik x.id x.am x.ad x.np x.ns x.nt x.nd x.dp x.ds x.se x.da).id.c, .int .i64 (Pv.mk 33 x.pr x.eg x.ed x.ik x.id x.am x.ad x.np x.ns x.nt x.nd x.dp x.ds x.se x.da).am, .slice (Pv.mk 33 x.pr x.eg x.ed x.ik x.id x.am x.ad x.np x.ns x.nt x.nd x.dp x.ds x.se x.da).ad.p (Pv.mk 33 x.pr x.eg x.ed x.ik x.id x.am x.ad x.np x.ns x.nt x.nd x.dp x.ds x.se x.da).ad.n (Pv.mk 33 x.pr x.eg x.ed x.ik x.id x.am x.ad x.np x.ns x.nt x.nd x.dp x.ds x.se x.da).ad.c, .int .i64 (Pv.mk 33 x.pr x.eg x.ed x.ik x.id x.am x.ad x.np x.ns x.nt x.nd x.dp x.ds x.se x.da).np, .slice (Pv.mk 33 x.pr x.eg x.ed x.ik x.id x.am x.ad x.np x.ns x.nt x.nd x.dp x.ds x.se x.da).ns.p (Pv.mk 33 x.pr x.eg x.ed x.ik x.id x.am x.ad x.np x.ns x.nt x.nd x.dp x.ds x.se x.da).ns.n (Pv.mk 33 x.pr x.eg x.ed x.ik x.id x.am x.ad x.np x.ns x.nt x.nd x.dp x.ds x.se x.da).ns.c, .int .i64 (Pv.mk 33 x.pr x.eg x.ed x.ik x.id x.am x.ad x.np x.ns x.nt x.nd x.dp x.ds x.se x.da).nt, .slice (Pv.mk 33 x.pr x.eg x.ed x.ik x.id x.am x.ad x.np x.ns x.nt x.nd x.dp x.ds x.se x.da).nd.p (Pv.mk 33 x.pr x.eg x.ed x.ik x.id x.am x.ad x.np x.ns x.nt x.nd x.dp x.ds x.se x.da).nd.n (Pv.mk 33 x.pr x.eg x.ed x.ik x.id x.am x.ad x.np x.ns x.nt x.nd x.dp x.ds x.se x.da).nd.c, .int .i64 (Pv.mk 33 x.pr x.eg x.ed x.ik x.id x.am x.ad x.np x.ns x.nt x.nd x.dp x.ds x.se x.da).dp, .slice (Pv.mk 33 x.pr x.eg x.ed x.ik x.id x.am x.ad x.np x.ns x.nt x.nd x.dp x.ds x.se x.da).ds.p (Pv.mk 33 x.pr x.eg x.ed x.ik x.id x.am x.ad x.np x.ns x.nt x.nd x.dp x.ds x.se x.da).ds.n (Pv.mk 33 x.pr x.eg x.ed x.ik x.id x.am x.ad x.np x.ns x.nt x.nd x.dp x.ds x.se x.da).ds.c, .slice (Pv.mk 33 x.pr x.eg x.ed x.ik x.id x.am x.ad x.np x.ns x.nt x.nd x.dp x.ds x.se x.da).se.p (Pv.mk 33 x.pr x.eg x.ed x.ik x.id x.am x.ad x.np x.ns x.nt x.nd x.dp x.ds x.se x.da).se.n (Pv.mk 33 x.pr x.eg x.ed x.ik x.id x.am x.ad x.np x.ns x.nt x.nd x.dp x.ds x.se x.da).se.c, .slice (Pv.mk 33 x.pr x.eg x.ed x.ik x.id x.am x.ad x.np x.ns x.nt x.nd x.dp x.ds x.se x.da).da.p (Pv.mk 33 x.pr x.eg x.ed x.ik x.id x.am x.ad x.np x.ns x.nt x.nd x.dp x.ds x.se x.da).da.n (Pv.mk 33 x.pr x.eg x.ed x.ik x.id x.am x.ad x.np x.ns x.nt x.nd x.dp x.ds x.se x.da).da.c] 45)) _ _ hc)
    simp only at hk3 hz3 hb3 hg3
    have HK3 := hidden hk3
    have HZ3 := hidden hz3
    have HB3 := hidden hb3
    have HG3 := hidden hg3
    clear hk3 hz3 hb3 hg3 HGO HZA HBA
    go_upto_region 6 with fail
    clear d0
    generalize hw3 : w2.alloc (.cells #[.int .i64 33, .slice x.pr.p x.pr.n x.pr.c, .int .i64 x.eg, .slice x.ed.p x.ed.n x.ed.c, .int .i64 x.ik, .slice x.id.p x.id.n x.id.c, .int .i64 x.am, .slice x.ad.p x.ad.n x.ad.c, .int .i64 x.np, .slice x.ns.p x.ns.n x.ns.c, .int .i64 x.nt, .slice x.nd.p x.nd.n x.nd.c, .int .i64 x.dp, .slice x.ds.p x.ds.n x.ds.c, .slice x.se.p x.se.n x.se.c, .slice x.da.p x.da.n x.da.c] 45) = w3 at *
    generalize w2.heap.size = g5 at *
    clear hw3
    obtain ⟨k0, k1, k2, k3, k4, k5, k6, k7, k8, k9, k10, k11, k12, k13, k14, k15, kfr⟩ := HK3.out
    obtain ⟨y0, y1, y2, y3, y4, y5, y6, y7, y8, y9, y10, y11, y12, y13, y14, y15, z0, z1, z2, z3, z4, z5, z6, z7, z8, z9, z10, z11, z12, z13, z14, z15, zf⟩ := HZ3.out.any
    have hz := stored_pv HZ3.out HB3.out (by omega) { x with t := 33 }
    have hgd := (G.ty 33 (G.keep HG3.out (fun a v ha hc => (setPv_grown w3 (w.heap.size + 1) { x with t := 33 }).cell hc (by rw [HSZ.out] at ha; simp; omega))))
    simp only [setPv] at hz hgd
    have HZZ := hidden hz
    have HGG := hidden (G.mono hgd (by rw [HSZ.out]; omega : w.heap.size ≤ _))
    clear hz hgd
    go_wp2
    exact ret_pv (g := w.heap.size + 1) rfl rfl rfl rfl HZZ.out.1 ⟨_, rfl, HZZ.out.2, Or.inl ⟨rfl, rfl, HGG.out⟩⟩
  · have hE' : (E != 0) = true := by simpa using hE
    have HE := hidden hE
    clear hE HGO
    have HZ2 := hidden (HZA.out.alloc (.cells #[.int .i64 x.t, .slice x.pr.p x.pr.n x.pr.c, .int .i64 x.eg, .slice x.ed.p x.ed.n x.ed.c, .int .i64 x.ik, .slice x.id.p x.id.n x.id.c, .int .i64 x.am, .slice x.ad.p x.ad.n x.ad.c, .int .i64 x.np, .slice x.ns.p x.ns.n x.ns.c, .int .i64 x.nt, .slice x.nd.p x.nd.n x.nd.c, .int .i64 x.dp, .slice x.ds.p x.ds.n x.ds.c, .slice x.se.p x.se.n x.se.c, .slice x.da.p x.da.n x.da.c] 45))
    have HB2 := hidden (HBA.out.alloc HBA.out.size (.cells #[.int .i64 x.t, .slice x.pr.p x.pr.n x.pr.c, .int .i64 x.eg, .slice x.ed.p x.ed.n x.ed.c, .int .i64 x.ik, .slice x.id.p x.id.n x.id.c, .int .i64 x.am, .slice x.ad.p x.ad.n x.ad.c, .int .i64 x.np, .slice x.ns.p x.ns.n x.ns.c, .int .i64 x.nt, .slice x.nd.p x.nd.n x.nd.c, .int .i64 x.dp, .slice x.ds.p x.ds.n x.ds.c, .slice x.se.p x.se.n x.se.c, .slice x.da.p x.da.n x.da.c] 45))
    clear HZA HBA
    generalize hw3 : w2.alloc (.cells #[.int .i64 x.t, .slice x.pr.p x.pr.n x.pr.c, .int .i64 x.eg, .slice x.ed.p x.ed.n x.ed.c, .int .i64 x.ik, .slice x.id.p x.id.n x.id.c, .int .i64 x.am, .slice x.ad.p x.ad.n x.ad.c, .int .i64 x.np, .slice x.ns.p x.ns.n x.ns.c, .int .i64 x.nt, .slice x.nd.p x.nd.n x.nd.c, .int .i64 x.dp, .slice x.ds.p x.ds.n x.ds.c, .slice x.se.p x.se.n x.se.c, .slice x.da.p x.da.n x.da.c] 45) = w3 at *
    obtain ⟨y0, y1, y2, y3, y4, y5, y6, y7, y8, y9, y10, y11, y12, y13, y14, y15, z0, z1, z2, z3, z4, z5, z6, z7, z8, z9, z10, z11, z12, z13, z14, z15, zf⟩ := HZ2.out.any
    have hz := stored_pv HZ2.out HB2.out (by omega) zeroP
    simp only [setPv, zeroP, nilV] at hz
    have HZZ := hidden hz
    clear hz hw3
    go_wp2
    exact ret_pv (g := w.heap.size + 1) rfl rfl rfl rfl HZZ.out.1 ⟨zeroP, rfl, HZZ.out.2, Or.inr ⟨HE.out, rfl⟩⟩
end Go.Proofs.YtbpmanbpmlkmnaaGreatDoor

namespace Go.Proofs.YtbpmanbpmlkmnaaGreatDoor
open Go.RowKit
set_option linter.unusedVariables false

theorem reader_34 (p : Option Addr) (n c : Nat) (w : World) :
    Calls Tryz.prog 19 #[.slice p n c, .int .i64 34] w fun e w' => e = .returned (.func (.func 42) #[.slice p n c] #[]) ∧ w = w' := by
  go_enter Tryz.func19, Tryz.ntmps19
  go_wp2
  go_ret
  exact ⟨rfl, rfl⟩

set_option maxHeartbeats 1600000 in
set_option maxRecDepth 100000 in
theorem pparse_34 (p : Option Addr) (n c : Nat) (xs : List Int) (cr : Bool) (E : Int) (G : Gd) (w : World) (h : Byt w p n c xs) (HRD : ∀ w, Byt w p n c xs → Calls Tryz.prog 42 #[.slice p n c] w (ReadPv w E (fun w' x => G.ok w.heap.size w' x))) :
    Calls Tryz.prog 10 #[.agg #[.int .i64 34, .bool cr, .slice p n c]] w (ParsedV w 34 E G) := by
  have HX := hidden ((h.alloc (.cells #[.int .i64 34, .bool cr, .slice p n c] 27)).alloc (.cells #[.int .i64 0, .slice none 0 0, .int .i64 0, .slice none 0 0, .int .i64 0, .slice none 0 0, .int .i64 0, .slice none 0 0, .int .i64 0, .slice none 0 0, .int .i64 0, .slice none 0 0, .int .i64 0, .slice none 0 0, .slice none 0 0, .slice none 0 0] 45))
  have HB := hidden (((Below.refl w.heap.size w).alloc (Nat.le_refl _) (.cells #[.int .i64 34, .bool cr, .slice p n c] 27)).alloc (by simp) (.cells #[.int .i64 0, .slice none 0 0, .int .i64 0, .slice none 0 0, .int .i64 0, .slice none 0 0, .int .i64 0, .slice none 0 0, .int .i64 0, .slice none 0 0, .int .i64 0, .slice none 0 0, .int .i64 0, .slice none 0 0, .slice none 0 0, .slice none 0 0] 45))
  have HZ : Hid (PvIn ((w.alloc (.cells #[.int .i64 34, .bool cr, .slice p n c] 27)).alloc (.cells #[.int .i64 0, .slice none 0 0, .int .i64 0, .slice none 0 0, .int .i64 0, .slice none 0 0, .int .i64 0, .slice none 0 0, .int .i64 0, .slice none 0 0, .int .i64 0, .slice none 0 0, .int .i64 0, .slice none 0 0, .slice none 0 0, .slice none 0 0] 45)) (w.heap.size + 1) zeroP) := hidden (by
    have := PvIn.new (w.alloc (.cells #[.int .i64 34, .bool cr, .slice p n c] 27)) zeroP 45
    simpa [zeroP, nilV] using this)
  have HW0 := hidden (show ((w.alloc (.cells #[.int .i64 34, .bool cr, .slice p n c] 27)).alloc (.cells #[.int .i64 0, .slice none 0 0, .int .i64 0, .slice none 0 0, .int .i64 0, .slice none 0 0, .int .i64 0, .slice none 0 0, .int .i64 0, .slice none 0 0, .int .i64 0, .slice none 0 0, .int .i64 0, .slice none 0 0, .slice none 0 0, .slice none 0 0] 45)).cell? ⟨w.heap.size, 0, none⟩ = some (.int .i64 34) by go_simp)
  have HSZ := hidden (show ((w.alloc (.cells #[.int .i64 34, .bool cr, .slice p n c] 27)).alloc (.cells #[.int .i64 0, .slice none 0 0, .int .i64 0, .slice none 0 0, .int .i64 0, .slice none 0 0, .int .i64 0, .slice none 0 0, .int .i64 0, .slice none 0 0, .int .i64 0, .slice none 0 0, .int .i64 0, .slice none 0 0, .slice none 0 0, .slice none 0 0] 45)).heap.size = w.heap.size + 1 + 1 by simp)
  have HR := hidden HRD
  clear h HRD
  go_enter Tryz.func10, Tryz.ntmps10
  go_upto_region 3 with (first
    | (go_at_call 19; (with_reducible refine (reader_34 _ _ _ _).mono ?_); rintro e w' ⟨rfl, rfl⟩)
    | (go_at_call 42; (with_reducible refine (HR.out _ HX.out).mono ?_); rintro e w2 ⟨x, rfl, hb2, hgood⟩; have HBA := hidden (HB.out.trans (hb2.mono HB.out.size)); have HZA := hidden (HZ.out.below hb2); have HGO := hidden hgood; have HDA := hidden (cell_below hb2 _ _ HW0.out); have d0 := cell_below ((Below.refl _ w2).alloc (Nat.le_refl _) (.cells #[.int .i64 x.t, .slice x.pr.p x.pr.n x.pr.c, .int .i64 x.eg, .slice x.ed.p x.ed.n x.ed.c, .int .i64 x.ik, .slice x.id.p x.id.n x.id.c, .int .i64 x.am, .slice x.ad.p x.ad.n x.ad.c, .int .i64 x.np, .slice x.ns.p x.ns.n x.ns.c, .int .i64 x.nt, .slice x.nd.p x.nd.n x.nd.c, .int .i64 x.dp, .slice x.ds.p x.ds.n x.ds.c, .slice x.se.p x.se.n x.se.c, .slice x.da.p x.da.n x.da.c] 45)) _ _ HDA.out; have HSB := hidden hb2.size; clear hb2 hgood)
    | fail)
  have hsb := HSB.out
  rw [HSZ.out] at hsb
  have hne1 : ¬ w2.heap.size = w.heap.size + 1 := by omega
  have hne2 : ¬ w.heap.size + 1 = w2.heap.size := by omega
  by_cases hE : E = 0
  · subst hE
    have hk3 := PvIn.new w2 { x with t := 34 } 45
    have hz3 := HZA.out.alloc (.cells #[.int .i64 (Pv.mk 34 x.pr x.eg x.ed x.ik x.id x.am x.ad x.np x.ns x.nt x.nd x.dp x.ds x.se x.da).t, .slice (Pv.mk 34 x.pr x.eg x.ed x.ik x.id x.am x.ad x.np x.ns x.nt x.nd x.dp x.ds x.se x.da).pr.p (Pv.mk 34 x.pr x.eg x.ed x.ik x.id x.am x.ad x.np x.ns x.nt x.nd x.dp x.ds x.se x.da).pr.n (Pv.mk 34 x.pr x.eg x.ed x.ik x.id x.am x.ad x.np x.ns x.nt x.nd x.dp x.ds x.se x.da).pr.c, .int .i64 (Pv.mk 34 x.pr x.eg x.ed x.ik x.id x.am x.ad x.np x.ns x.nt x.nd x.dp x.ds x.se x.da).eg, .slice (Pv.mk 34 x.pr x.eg x.ed x.ik x.id x.am x.ad x.np x.ns x.nt x.nd x.dp x.ds x.se x.da).ed.p (Pv.mk 34 x.pr x.eg x.ed x.ik x.id x.am x.ad x.np x.ns x.nt x.nd x.dp x.ds x.se x.da).ed.n (Pv.mk 34 x.pr x.eg x.ed x.ik x.id x.am x.ad x.np x.ns x.nt x.nd x.dp x.ds x.se x.da).ed.c, .int .i64 (Pv.mk 34 x.pr x.eg x.ed x.ik x.id x.am x.ad x.np x.ns x.nt x.nd x.dp x.ds x.se x.da).ik, .slice (Pv.mk 34 x.pr x.eg x.ed x.ik x.id x.am x.ad x.np x.ns x.nt x.nd x.dp x.ds x.se x.da).id.p (Pv.mk 34 x.pr x.eg x.ed x.ik x.id x.am x.ad x.np x.ns x.nt x.nd x.dp x.ds x.se x.da).id.n (Pv.mk 34 x.pr x.eg x.ed x.ik x.id x.am x.ad x.np x.ns x.nt x.nd x.dp x.ds x.se x.da).id.c, .int .i64 (Pv.mk 34 x.pr x.eg x.ed x.ik x.id x.am x.ad x.np x.ns x.nt x.nd x.dp x.ds x.se x.da).am, .slice (Pv.mk 34 x.pr x.eg x.ed x.ik x.id x.am x.ad x.np x.ns x.nt x.nd x.dp x.ds x.se x.da).ad.p (Pv.mk 34 x.pr x.eg x.ed x.ik x.id x.am x.ad x.np x.ns x.nt x.nd x.dp x.ds x.se x.da).ad.n (Pv.mk 34 x.pr x.eg x.ed x.ik x.id x.am x.ad x.np x.ns x.nt x.nd x.dp x.ds x.se x.da).ad.c, .int .i64 (Pv.mk 34 x.pr x.eg x.ed x.ik x.id x.am x.ad x.np x.ns x.nt x.nd x.dp x.ds x.se x.da).np, .slice (Pv.mk 34 x.pr x.eg x.ed x.ik x.id x.am x.ad x.np x.ns x.nt x.nd x.dp x.ds x.se x.da).ns.p (Pv.mk 34 x.pr x.eg x.ed x.ik x.id x.am x.ad x.np x.ns x.nt x.nd x.dp x.ds x.se x.da).ns.n (Pv.mk 34 x.pr x.eg x.ed x.ik x.id x.am x.ad x.np x.ns x.nt x.nd x.dp x.ds x.se x.da).ns.c, .int .i64 (Pv.mk 34 x.pr x.eg x.ed x.ik x.id x.am x.ad x.np x.ns x.nt x.nd x.dp x.ds x.se x.da).nt, .slice (Pv.mk 34 x.pr x.eg x.ed x.ik x.id x.am x.ad x.np x.ns x.nt x.nd x.dp x.ds x.se x.da).nd.p (Pv.mk 34 x.pr x.eg x.ed x.ik x.id x.am x.ad x.np x.ns x.nt x.nd x.dp x.ds x.se x.da).nd.n (Pv.mk 34 x.pr x.eg x.ed x.ik x.id x.am x.ad x.np x.ns x.nt x.nd x.dp x.ds x.se x.da).nd.c, .int .i64 (Pv.mk 34 x.pr x.eg x.ed x.ik x.id x.am x.ad x.np x.ns x.nt x.nd x.dp x.ds x.se x.da).dp, .slice (Pv.mk 34 x.pr x.eg x.ed x.ik x.id x.am x.ad x.np x.ns x.nt x.nd x.dp x.ds x.se x.da).ds.p (Pv.mk 34 x.pr x.eg x.ed x.ik x.id x.am x.ad x.np x.ns x.nt x.nd x.dp x.ds x.se x.da).ds.n (Pv.mk 34 x.pr x.eg x.ed x.ik x.id x.am x.ad x.np x.ns x.nt x.nd x.dp x.ds x.se x.da).ds.c, .slice (Pv.mk 34 x.pr x.eg x.ed x.ik x.id x.am x.ad x.np x.ns x.nt x.nd x.dp x.ds x.se x.da).se.p (Pv.mk 34 x.pr x.eg x.ed x.ik x.id x.am x.ad x.np x.ns x.nt x.nd x.dp x.ds x.se x.da).se.n (Pv.mk 34 x.pr x.eg x.ed x.ik x.id x.am x.ad x.np x.ns x.nt x.nd x.dp x.ds x.se x.da).se.c, .slice (Pv.mk 34 x.pr x.eg x.ed x.ik x.id x.am x.ad x.np x.ns x.nt x.nd x.dp x.ds x.se x.da).da.p (Pv.mk 34 x.pr x.eg x.ed x.ik x.id x.am x.ad x.np x.ns x.nt x.nd x.dp x.ds x.se x.da).da.n (Pv.mk 34 x.pr x.eg x.ed x.ik x.id x.am x.ad x.np x.ns x.nt x.nd x.dp x.ds x.se x.da).da.c] 45)
    have hb3 := HBA.out.alloc HBA.out.size (.cells #[.int .i64 (Pv.mk 34 x.pr x.eg x.ed x.ik x.id x.am x.ad x.np x.ns x.nt x.nd x.dp x.ds x.se x.da).t, .slice (Pv.mk 34 x.pr x.eg x.ed x.ik x.id x.am x.ad x.np x.ns x.nt x.nd x.dp x.ds x.se x.da).pr.p (Pv.mk 34 x.pr x.eg x.ed x.ik x.id x.am x.ad x.np x.ns x.nt x.nd x.dp x.ds x.se x.da).pr.n (Pv.mk 34 x.pr x.eg x.ed x.ik x.id x.am x.ad x.np x.ns x.nt x.nd x.dp x.ds x.se x.da).pr.c, .int .i64 (Pv.mk 34 x.pr x.eg x.ed x.ik x.id x.am x.ad x.np x.ns x.nt x.nd x.dp x.ds x.se x.da).eg, .slice (Pv.mk 34 x.pr x.eg x.ed x.ik x.id x.am x.ad x.np x.ns x.nt x.nd x.dp x.ds x.se x.da).ed.p (Pv.mk 34 x.pr x.eg x.ed x.ik x.id x.am x.ad x.np x.ns x.nt x.nd x.dp x.ds x.se x.da).ed.n (Pv.mk 34 x.pr x.eg x.ed x.ik x.id x.am x.ad x.np x.ns x.nt x.nd x.dp x.ds x.se x.da).ed.c, .int .i64 (Pv.mk 34 x.pr x.eg x.ed x.ik x.id x.am x.ad x.np x.ns x.nt x.nd x.dp x.ds x.se x.da).ik, .slice (Pv.mk 34 x.pr x.eg x.ed x.ik x.id x.am x.ad x.np x.ns x.nt x.nd x.dp x.ds x.se x.da).id.p (Pv.mk 34 x.pr x.eg x.ed x.ik x.id x.am x.ad x.np x.ns x.nt x.nd x.dp x.ds x.se x.da).id.n (Pv.mk 34 x.pr x.eg x.ed x.ik x.id x.am x.ad x.np x.ns x.nt x.nd x.dp x.ds x.se x.da).id.c, .int .i64 (Pv.mk 34 x.pr x.eg x.ed x.ik x.id x.am x.ad x.np x.ns x.nt x.nd x.dp x.ds x.se x.da).am, .slice (Pv.mk 34 x.pr x.eg x.ed x.ik x.id x.am x.ad x.np x.ns x.nt x.nd x.dp x.ds x.se x.da).ad.p (Pv.mk 34 x.pr x.eg x.ed x.ik x.id x.am x.ad x.np x.ns x.nt x.nd x.dp x.ds x.se x.da).ad.n (Pv.mk 34 x.pr x.eg x.ed x.ik x.id x.am x.ad x.np x.ns x.nt x.nd x.dp x.ds x.se x.da).ad.c, .int .i64 (Pv.mk 34 x.pr x.eg x.ed x.ik x.id x.am x.ad x.np x.ns x.nt x.nd x.dp x.ds x.se x.da).np, .slice (Pv.mk 34 x.pr x.eg x.ed x.ik x.id x.am x.ad x.np x.ns x.nt x.nd x.dp x.ds x.se x.da).ns.p (Pv.mk 34 x.pr x.eg x.ed x.ik x.id x.am x.ad x.np x.ns x.nt x.nd x.dp x.ds x.se x.da).ns.n (Pv.mk 34 x.pr x.eg x.ed x.ik x.id x.am x.ad x.np x.ns x.nt x.nd x.dp x.ds x.se x.da).ns.c, .int .i64 (Pv.mk 34 x.pr x.eg x.ed x.ik x.id x.am x.ad x.np x.ns x.nt x.nd x.dp x.ds x.se x.da).nt, .slice (Pv.mk 34 x.pr x.eg x.ed x.ik x.id x.am x.ad x.np x.ns x.nt x.nd x.dp x.ds x.se x.da).nd.p (Pv.mk 34 x.pr x.eg x.ed x.ik x.id x.am x.ad x.np x.ns x.nt x.nd x.dp x.ds x.se x.da).nd.n (Pv.mk 34 x.pr x.eg x.ed x.ik x.id x.am x.ad x.np x.ns x.nt x.nd x.dp x.ds x.se x.da).nd.c, .int .i64 (Pv.mk 34 x.pr x.eg x.ed x.ik x.id x.am x.ad x.np x.ns x.nt x.nd x.dp x.ds x.se x.da).dp, .slice (Pv.mk 34 x.pr x.eg x.ed x.ik x.id x.am x.ad x.np x.ns x.nt x.nd x.dp x.ds x.se x.da).ds.p (Pv.mk 34 x.pr x.eg x.ed x.ik x.id x.am x.ad x.np x.ns x.nt x.nd x.dp x.ds x.se x.da).ds.n (Pv.mk 34 x.pr x.eg x.ed x.ik x.id x.am x.ad x.np x.ns x.nt x.nd x.dp x.ds x.se x.da).ds.c, .slice (Pv.mk 34 x.pr x.eg x.ed x.ik x.id x.am x.ad x.np x.ns x.nt x.nd x.dp x.ds x.se x.da).se.p (Pv.mk 34 x.pr x.eg x.ed x.ik x.id x.am x.ad x.np x.ns x.nt x.nd x.dp x.ds x.se x.da).se.n (Pv.mk 34 x.pr x.eg x.ed x.ik x.id x.am x.ad x.np x.ns x.nt x.nd x.dp x.ds x.se x.da).se.c, .slice (Pv.mk 34 x.pr x.eg x.ed x.ik x.id x.am x.ad x.np x.ns x.nt x.nd x.dp x.ds x.se x.da).da.p (Pv.mk 34 x.pr x.eg x.ed x.ik x.id x.am x.ad x.np x.ns x.nt x.nd x.dp x.ds x.se x.da).da.n (Pv.mk 34 x.pr x.eg x.ed x.ik x.id x.am x.ad x.np x.ns x.nt x.nd x.dp x.ds x.se x.da).da.c] 45)
    have hg3 := G.keep (HGO.out rfl) (fun a v ha hc => cell_below ((Below.refl _ w2).alloc (Nat.le_refl _) (.cells #[.int .i64 (Pv.mk 34 x.pr x.eg x.ed x.ik x.id x.am x.ad x.np x.ns x.nt x.nd x.dp x.ds x.se x.da).t, .slice (Pv.mk 34 x.pr x.eg x.ed x.ik x.id x.am x.ad x.np x.ns x.nt x.nd x.dp x.ds x.se x.da).pr.p (Pv.mk 34 x.pr x.eg x.ed x.ik x.id x.am x.ad x.np x.ns x.nt x.nd x.dp x.ds x.se x.da).pr.n (Pv.mk 34 x.pr x.eg x.ed x.ik x.id x.am x.ad x.np x.ns x.nt x.nd x.dp x.ds x.se x.da).pr.c, .int .i64 (Pv.mk 34 x.pr x.eg x.ed x.ik x.id x.am x.ad x.np x.ns x.nt x.nd x.dp x.ds x.se x.da).eg, .slice (Pv.mk 34 x.pr x.eg x.ed x.ik x.id x.am x.ad x.np x.ns x.nt x.nd x.dp x.ds x.se x.da).ed.p (Pv.mk 34 x.pr x.eg x.ed x.ik x.id x.am x.ad x.np x.ns x.nt x.nd x.dp x.ds x.se x.da).ed.n (Pv.mk 34 x.pr x.eg x.ed x.ik x.id x.am x.ad x.np x.ns x.nt x.nd x.dp x.ds x.se x.da).ed.c, .int .i64 (Pv.mk 34 x.pr x.eg x.ed x.ik x.id x.am x.ad x.np x.ns x.nt x.nd x.dp x.ds x.se x.da).ik, .slice (Pv.mk 34 x.pr x.eg x.ed x.ik x.id x.am x.ad x.np x.ns x.nt x.nd x.dp x.ds x.se x.da).id.p (Pv.mk 34 x.pr x.eg x.ed x.ik x.id x.am x.ad x.np x.ns x.nt x.nd x.dp x.ds x.se x.da).id.n (Pv.mk 34 x.pr x.eg x.ed x.ik x.id x.am x.ad x.np x.ns x.nt x.nd x.dp x.ds x.se x.da).id.c, .int .i64 (Pv.mk 34 x.pr x.eg x.ed x.ik x.id x.am x.ad x.np x.ns x.nt x.nd x.dp x.ds x.se x.da).am, .slice (Pv.mk 34 x.pr x.eg x.ed x.ik x.id x.am x.ad x.np x.ns x.nt x.nd x.dp x.ds x.se x.da).ad.p (Pv.mk 34 x.pr x.eg x.ed x.ik x.id x.am x.ad x.np x.ns x.nt x.nd x.dp x.ds x.se x.da).ad.n (Pv.mk 34 x.pr x.eg x.ed x.ik x.id x.am x.ad x.np x.ns x.nt x.nd x.dp x.ds x.se x.da).ad.c, .int .i64 (Pv.mk 34 x.pr x.eg x.ed x.ik x.id x.am x.ad x.np x.ns x.nt x.nd x.dp x.ds x.se x.da).np, .slice (Pv.mk 34 x.pr x.eg x.ed x.ik x.id x.am x.ad x.np x.ns x.nt x.nd x.dp x.ds x.se x.da).ns.p (Pv.mk 34 x.pr x.eg x.ed x.ik x.id x.am x.ad x.np x.ns x.nt x.nd x.dp x.ds x.se x.da).ns.n (Pv.mk 34 x.pr x.eg x.ed x.ik x.id x.am x.ad x.np x.ns x.nt x.nd x.dp x.ds x.se x.da).ns.c, .int .i64 (Pv.mk 34 x.pr x.eg x.ed x.ik x.id x.am x.ad x.np x.ns x.nt x.nd x.dp x.ds x.se x.da).nt, .slice (Pv.mk 34 x.pr x.eg x.ed x.ik x.id x.am x.ad x.np x.ns x.nt x.nd x.dp x.ds x.se x.da).nd.p (Pv.mk 34 x.pr x.eg x.ed x.ik x.id x.am x.ad x.np x.ns x.nt x.nd x.dp x.ds x.se x.da).nd.n (Pv.mk 34 x.pr x.eg x.ed x.ik x.id x.am x.ad x.np x.ns x.nt x.nd x.dp x.ds x.se x.da).nd.c, .int .i64 (Pv.mk 34 x.pr x.eg x.ed x.ik x.id x.am x.ad x.np x.ns x.nt x.nd x.dp x.ds x.se x.da).dp, .slice (Pv.mk 34 x.pr x.eg x.ed x.ik x.id x.am x.ad x.np x.ns x.nt x.nd x.dp x.ds x.se x.da).ds.p (Pv.mk 34 x.pr x.eg x.ed x.ik x.id x.am x.ad x.np x.ns x.nt x.nd x.dp x.ds x.se x.da).ds.n (Pv.mk 34 x.pr x.eg x.ed x.ik x.id x.am x.ad x.np x.ns x.nt x.nd x.dp x.ds x.se x.da).ds.c, .slice (Pv.mk 34 x.pr x.eg x.ed x.ik x.id x.am x.ad x.np x.ns x.nt x.nd x.dp x.ds x.se x.da).se.p (Pv.mk 34 x.pr x.eg x.ed x.ik x.id x.am x.ad x.np x.ns x.nt x.nd x.dp x.ds x.se x.da).se.n (Pv.mk 34 x.pr x.eg x.ed x.ik x.id x.am x.ad x.np x.ns x.nt x.nd x.dp x.ds x.se x.da).se.c, .slice (Pv.mk 34 x.pr x.eg x.ed x.ik x.id x.am x.ad x.np x.ns x.nt x.nd x.dp x.ds x.se x.da).da.p (Pv.mk 34 x.pr x.eg x.ed x.ik x.id x.am x.ad x.np x.ns x.nt x.nd x.dp x.ds x.se x.da).da.n (Pv.mk 34 x.pr x.eg x.ed x.ik x.id x.am x.ad x.np x.ns x.nt x.nd x.dp x.ds x.se x.da).da.c] 45)) _ _ hc)
    simp only at hk3 hz3 hb3 hg3
    have HK3 := hidden hk3
    have HZ3 := hidden hz3
    have HB3 := hidden hb3
    have HG3 := hidden hg3
    clear hk3 hz3 hb3 hg3 HGO HZA HBA
    go_upto_region 6 with fail
    clear d0
    generalize hw3 : w2.alloc (.cells #[.int .i64 34, .slice x.pr.p x.pr.n x.pr.c, .int .i64 x.eg, .slice x.ed.p x.ed.n x.ed.c, .int .i64 x.ik, .slice x.id.p x.id.n x.id.c, .int .i64 x.am, .slice x.ad.p x.ad.n x.ad.c, .int .i64 x.np, .slice x.ns.p x.ns.n x.ns.c, .int .i64 x.nt, .slice x.nd.p x.nd.n x.nd.c, .int .i64 x.dp, .slice x.ds.p x.ds.n x.ds.c, .slice x.se.p x.se.n x.se.c, .slice x.da.p x.da.n x.da.c] 45) = w3 at *
    generalize w2.heap.size = g5 at *
    clear hw3
    obtain ⟨k0, k1, k2, k3, k4, k5, k6, k7, k8, k9, k10, k11, k12, k13, k14, k15, kfr⟩ := HK3.out
    obtain ⟨y0, y1, y2, y3, y4, y5, y6, y7, y8, y9, y10, y11, y12, y13, y14, y15, z0, z1, z2, z3, z4, z5, z6, z7, z8, z9, z10, z11, z12, z13, z14, z15, zf⟩ := HZ3.out.any
    have hz := stored_pv HZ3.out HB3.out (by omega) { x with t := 34 }
    have hgd := (G.ty 34 (G.keep HG3.out (fun a v ha hc => (setPv_grown w3 (w.heap.size + 1) { x with t := 34 }).cell hc (by rw [HSZ.out] at ha; simp; omega))))
    simp only [setPv] at hz hgd
    have HZZ := hidden hz
    have HGG := hidden (G.mono hgd (by rw [HSZ.out]; omega : w.heap.size ≤ _))
    clear hz hgd
    go_wp2
    exact ret_pv (g := w.heap.size + 1) rfl rfl rfl rfl HZZ.out.1 ⟨_, rfl, HZZ.out.2, Or.inl ⟨rfl, rfl, HGG.out⟩⟩
  · have hE' : (E != 0) = true := by simpa using hE
    have HE := hidden hE
    clear hE HGO
    have HZ2 := hidden (HZA.out.alloc (.cells #[.int .i64 x.t, .slice x.pr.p x.pr.n x.pr.c, .int .i64 x.eg, .slice x.ed.p x.ed.n x.ed.c, .int .i64 x.ik, .slice x.id.p x.id.n x.id.c, .int .i64 x.am, .slice x.ad.p x.ad.n x.ad.c, .int .i64 x.np, .slice x.ns.p x.ns.n x.ns.c, .int .i64 x.nt, .slice x.nd.p x.nd.n x.nd.c, .int .i64 x.dp, .slice x.ds.p x.ds.n x.ds.c, .slice x.se.p x.se.n x.se.c, .slice x.da.p x.da.n x.da.c] 45))
    have HB2 := hidden (HBA.out.alloc HBA.out.size (.cells #[.int .i64 x.t, .slice x.pr.p x.pr.n x.pr.c, .int .i64 x.eg, .slice x.ed.p x.ed.n x.ed.c, .int .i64 x.ik, .slice x.id.p x.id.n x.id.c, .int .i64 x.am, .slice x.ad.p x.ad.n x.ad.c, .int .i64 x.np, .slice x.ns.p x.ns.n x.ns.c, .int .i64 x.nt, .slice x.nd.p x.nd.n x.nd.c, .int .i64 x.dp, .slice x.ds.p x.ds.n x.ds.c, .slice x.se.p x.se.n x.se.c, .slice x.da.p x.da.n x.da.c] 45))
    clear HZA HBA
    generalize hw3 : w2.alloc (.cells #[.int .i64 x.t, .slice x.pr.p x.pr.n x.pr.c, .int .i64 x.eg, .slice x.ed.p x.ed.n x.ed.c, .int .i64 x.ik, .slice x.id.p x.id.n x.id.c, .int .i64 x.am, .slice x.ad.p x.ad.n x.ad.c, .int .i64 x.np, .slice x.ns.p x.ns.n x.ns.c, .int .i64 x.nt, .slice x.nd.p x.nd.n x.nd.c, .int .i64 x.dp, .slice x.ds.p x.ds.n x.ds.c, .slice x.se.p x.se.n x.se.c, .slice x.da.p x.da.n x.da.c] 45) = w3 at *
    obtain ⟨y0, y1, y2, y3, y4, y5, y6, y7, y8, y9, y10, y11, y12, y13, y14, y15, z0, z1, z2, z3, z4, z5, z6, z7, z8, z9, z10, z11, z12, z13, z14, z15, zf⟩ := HZ2.out.any
    have hz := stored_pv HZ2.out HB2.out (by omega) zeroP
    simp only [setPv, zeroP, nilV] at hz
    have HZZ := hidden hz
    clear hz hw3
    go_wp2
    exact ret_pv (g := w.heap.size + 1) rfl rfl rfl rfl HZZ.out.1 ⟨zeroP, rfl, HZZ.out.2, Or.inr ⟨HE.out, rfl⟩⟩
end Go.Proofs.YtbpmanbpmlkmnaaGreatDoor

namespace Go.Proofs.YtbpmanbpmlkmnaaGreatDoor
open Go.RowKit
set_option linter.unusedVariables false

theorem reader_35 (p : Option Addr) (n c : Nat) (w : World) :
    Calls Tryz.prog 19 #[.slice p n c, .int .i64 35] w fun e w' => e = .returned (.func (.func 43) #[.slice p n c] #[]) ∧ w = w' := by
  go_enter Tryz.func19, Tryz.ntmps19
  go_wp2
  go_ret
  exact ⟨rfl, rfl⟩

set_option maxHeartbeats 1600000 in
set_option maxRecDepth 100000 in
theorem pparse_35 (p : Option Addr) (n c : Nat) (xs : List Int) (cr : Bool) (E : Int) (G : Gd) (w : World) (h : Byt w p n c xs) (HRD : ∀ w, Byt w p n c xs → Calls Tryz.prog 43 #[.slice p n c] w (ReadPv w E (fun w' x => G.ok w.heap.size w' x))) :
    Calls Tryz.prog 10 #[.agg #[.int .i64 35, .bool cr, .slice p n c]] w (ParsedV w 35 E G) := by
  have HX := hidden ((h.alloc (.cells #[.int .i64 35, .bool cr, .slice p n c] 27)).alloc (.cells #[.int .i64 0, .slice none 0 0, .int .i64 0, .slice none 0 0, .int .i64 0, .slice none 0 0, .int .i64 0, .slice none 0 0, .int .i64 0, .slice none 0 0, .int .i64 0, .slice none 0 0, .int .i64 0, .slice none 0 0, .slice none 0 0, .slice none 0 0] 45))
  have HB := hidden (((Below.refl w.heap.size w).alloc (Nat.le_refl _) (.cells #[.int .i64 35, .bool cr, .slice p n c] 27)).alloc (by simp) (.cells #[.int .i64 0, .slice none 0 0, .int .i64 0, .slice none 0 0, .int .i64 0, .slice none 0 0, .int .i64 0, .slice none 0 0, .int .i64 0, .slice none 0 0, .int .i64 0, .slice none 0 0, .int .i64 0, .slice none 0 0, .slice none 0 0, .slice none 0 0] 45))
  have HZ : Hid (PvIn ((w.alloc (.cells #[.int .i64 35, .bool cr, .slice p n c] 27)).alloc (.cells #[.int .i64 0, .slice none 0 0, .int .i64 0, .slice none 0 0, .int .i64 0, .slice none 0 0, .int .i64 0, .slice none 0 0, .int .i64 0, .slice none 0 0, .int .i64 0, .slice none 0 0, .int .i64 0, .slice none 0 0, .slice none 0 0, .slice none 0 0] 45)) (w.heap.size + 1) zeroP) := hidden (by
    have := PvIn.new (w.alloc (.cells #[.int .i64 35, .bool cr, .slice p n c] 27)) zeroP 45
    simpa [zeroP, nilV] using this)
  have HW0 := hidden (show ((w.alloc (.cells #[.int .i64 35, .bool cr, .slice p n c] 27)).alloc (.cells #[.int .i64 0, .slice none 0 0, .int .i64 0, .slice none 0 0, .int .i64 0, .slice none 0 0, .int .i64 0, .slice none 0 0, .int .i64 0, .slice none 0 0, .int .i64 0, .slice none 0 0, .int .i64 0, .slice none 0 0, .slice none 0 0, .slice none 0 0] 45)).cell? ⟨w.heap.size, 0, none⟩ = some (.int .i64 35) by go_simp)
  have HSZ := hidden (show ((w.alloc (.cells #[.int .i64 35, .bool cr, .slice p n c] 27)).alloc (.cells #[.int .i64 0, .slice none 0 0, .int .i64 0, .slice none 0 0, .int .i64 0, .slice none 0 0, .int .i64 0, .slice none 0 0, .int .i64 0, .slice none 0 0, .int .i64 0, .slice none 0 0, .int .i64 0, .slice none 0 0, .slice none 0 0, .slice none 0 0] 45)).heap.size = w.heap.size + 1 + 1 by simp)
  have HR := hidden HRD
  clear h HRD
  go_enter Tryz.func10, Tryz.ntmps10
  go_upto_region 3 with (first
    | (go_at_call 19; (with_reducible refine (reader_35 _ _ _ _).mono ?_); rintro e w' ⟨rfl, rfl⟩)
    | (go_at_call 43; (with_reducible refine (HR.out _ HX.out).mono ?_); rintro e w2 ⟨x, rfl, hb2, hgood⟩; have HBA := hidden (HB.out.trans (hb2.mono HB.out.size)); have HZA := hidden (HZ.out.below hb2); have HGO := hidden hgood; have HDA := hidden (cell_below hb2 _ _ HW0.out); have d0 := cell_below ((Below.refl _ w2).alloc (Nat.le_refl _) (.cells #[.int .i64 x.t, .slice x.pr.p x.pr.n x.pr.c, .int .i64 x.eg, .slice x.ed.p x.ed.n x.ed.c, .int .i64 x.ik, .slice x.id.p x.id.n x.id.c, .int .i64 x.am, .slice x.ad.p x.ad.n x.ad.c, .int .i64 x.np, .slice x.ns.p x.ns.n x.ns.c, .int .i64 x.nt, .slice x.nd.p x.nd.n x.nd.c, .int .i64 x.dp, .slice x.ds.p x.ds.n x.ds.c, .slice x.se.p x.se.n x.se.c, .slice x.da.p x.da.n x.da.c] 45)) _ _ HDA.out; have HSB := hidden hb2.size; clear hb2 hgood)
    | fail)
  have hsb := HSB.out
  rw [HSZ.out] at hsb
  have hne1 : ¬ w2.heap.size = w.heap.size + 1 := by omega
  have hne2 : ¬ w.heap.size + 1 = w2.heap.size := by omega
  by_cases hE : E = 0
  · subst hE
    have hk3 := PvIn.new w2 { x with t := 35 } 45
    have hz3 := HZA.out.alloc (.cells #[.int .i64 (Pv.mk 35 x.pr x.eg x.ed x.ik x.id x.am x.ad x.np x.ns x.nt x.nd x.dp x.ds x.se x.da).t, .slice (Pv.mk 35 x.pr x.eg x.ed x.ik x.id x.am x.ad x.np x.ns x.nt x.nd x.dp x.ds x.se x.da).pr.p (Pv.mk 35 x.pr x.eg x.ed x.ik x.id x.am x.ad x.np x.ns x.nt x.nd x.dp x.ds x.se x.da).pr.n (Pv.mk 35 x.pr x.eg x.ed x.ik x.id x.am x.ad x.np x.ns x.nt x.nd x.dp x.ds x.se x.da).pr.c, .int .i64 (Pv.mk 35 x.pr x.eg x.ed x.ik x.id x.am x.ad x.np x.ns x.nt x.nd x.dp x.ds x.se x.da).eg, .slice (Pv.mk 35 x.pr x.eg x.ed x.ik x.id x.am x.ad x.np x.ns x.nt x.nd x.dp x.ds x.se x.da).ed.p (Pv.mk 35 x.pr x.eg x.ed x.ik x.id x.am x.ad x.np x.ns x.nt x.nd x.dp x.ds x.se x.da).ed.n (Pv.mk 35 x.pr x.eg x.ed x.ik x.id x.am x.ad x.np x.ns x.nt x.nd x.dp x.ds x.se x.da).ed.c, .int .i64 (Pv.mk 35 x.pr x.eg x.ed x.ik x.id x.am x.ad x.np x.ns x.nt x.nd x.dp x.ds x.se x.da).ik, .slice (Pv.mk 35 x.pr x.eg x.ed x.ik x.id x.am x.ad x.np x.ns x.nt x.nd x.dp x.ds x.se x.da).id.p (Pv.mk 35 x.pr x.eg x.ed x.ik x.id x.am x.ad x.np x.ns x.nt x.nd x.dp x.ds x.se x.da).id.n (Pv.mk 35 x.pr x.eg x.ed x.ik x.id x.am x.ad x.np x.ns x.nt x.nd x.dp x.ds x.se x.da).id.c, .int .i64 (Pv.mk 35 x.pr x.eg x.ed x.ik x.id x.am x.ad x.np x.ns x.nt x.nd x.dp x.ds x.se x.da).am, .slice (Pv.mk 35 x.pr x.eg x.ed x.ik x.id x.am x.ad x.np x.ns x.nt x.nd x.dp x.ds x.se x.da).ad.p (Pv.mk 35 x.pr x.eg x.ed x.ik x.id x.am x.ad x.np x.ns x.nt x.nd x.dp x.ds x.se x.da).ad.n (Pv.mk 35 x.pr x.eg x.ed x.ik x.id x.am x.ad x.np x.ns x.nt x.nd x.dp x.ds x.se x.da).ad.c, .int .i64 (Pv.mk 35 x.pr x.eg x.ed x.ik x.id x.am x.ad x.np x.ns x.nt x.nd x.dp x.ds x.se x.da).np, .slice (Pv.mk 35 x.pr x.eg x.ed x.ik x.id x.am x.ad x.np x.ns x.nt x.nd x.dp x.ds x.se x.da).ns.p (Pv.mk 35 x.pr x.eg x.ed x.ik x.id x.am x.ad x.np x.ns x.nt x.nd x.dp x.ds x.se x.da).ns.n (Pv.mk 35 x.pr x.eg x.ed x.ik x.id x.am x.ad x.np x.ns x.nt x.nd x.dp x.ds x.se x.da).ns.c, .int .i64 (Pv.mk 35 x.pr x.eg x.ed x.ik x.id x.am x.ad x.np x.ns x.nt x.nd x.dp x.ds x.se x.da).nt, .slice (Pv.mk 35 x.pr x.eg x.ed x.ik x.id x.am x.ad x.np x.ns x.nt x.nd x.dp x.ds x.se x.da).nd.p (Pv.mk 35 x.pr x.eg x.ed x.ik x.id x.am x.ad x.np x.ns x.nt x.nd x.dp x.ds x.se x.da).nd.n (Pv.mk 35 x.pr x.eg x.ed x.ik x.id x.am x.ad x.np x.ns x.nt x.nd x.dp x.ds x.se x.da).nd.c, .int .i64 (Pv.mk 35 x.pr x.eg x.ed x.ik x.id x.am x.ad x.np x.ns x.nt x.nd x.dp x.ds x.se x.da).dp, .slice (Pv.mk 35 x.pr x.eg x.ed x.ik x.id x.am x.ad x.np x.ns x.nt x.nd x.dp x.ds x.se x.da).ds.p (Pv.mk 35 x.pr x.eg x.ed x.ik x.id x.am x.ad x.np x.ns x.nt x.nd x.dp x.ds x.se x.da).ds.n (Pv.mk 35 x.pr x.eg x.ed x.ik x.id x.am x.ad x.np x.ns x.nt x.nd x.dp x.ds x.se x.da).ds.c, .slice (Pv.mk 35 x.pr x.eg x.ed x.ik x.id x.am x.ad x.np x.ns x.nt x.nd x.dp x.ds x.se x.da).se.p (Pv.mk 35 x.pr x.eg x.ed x.ik x.id x.am x.ad x.np x.ns x.nt x.nd x.dp x.ds x.se x.da).se.n (Pv.mk 35 x.pr x.eg x.ed x.ik x.id x.am x.ad x.np x.ns x.nt x.nd x.dp x.ds x.se x.da).se.c, .slice (Pv.mk 35 x.pr x.eg x.ed x.ik x.id x.am x.ad x.np x.ns x.nt x.nd x.dp x.ds x.se x.da).da.p (Pv.mk 35 x.pr x.eg x.ed x.ik x.id x.am x.ad x.np x.ns x.nt x.nd x.dp x.ds x.se x.da).da.n (Pv.mk 35 x.pr x.eg x.ed x.ik x.id x.am x.ad x.np x.ns x.nt x.nd x.dp x.ds x.se x.da).da.c] 45)
    have hb3 := HBA.out.alloc HBA.out.size (.cells #[.int .i64 (Pv.mk 35 x.pr x.eg x.ed x.ik x.id x.am x.ad x.np x.ns x.nt x.nd x.dp x.ds x.se x.da).t, .slice (Pv.mk 35 x.pr x.eg x.ed x.ik x.id x.am x.ad x.np x.ns x.nt x.nd x.dp x.ds x.se x.da).pr.p (Pv.mk 35 x.pr x.eg x.ed x.ik x.id x.am x.ad x.np x.ns x.nt x.nd x.dp x.ds x.se x.da).pr.n (Pv.mk 35 x.pr x.eg x.ed x.ik x.id x.am x.ad x.np x.ns x.nt x.nd x.dp x.ds x.se x.da).pr.c, .int .i64 (Pv.mk 35 x.pr x.eg x.ed x.ik x.id x.am x.ad x.np x.ns x.nt x.nd x.dp x.ds x.se x.da).eg, .slice (Pv.mk 35 x.pr x.eg x.ed x.ik x.id x.am x.ad x.np x.ns x.nt x.nd x.dp x.ds x.se x.da).ed.p (Pv.mk 35 x.pr x.eg x.ed x.ik x.id x.am x.ad x.np x.ns x.nt x.nd x.dp x.ds x.se x.da).ed.n (Pv.mk 35 x.pr x.eg x.ed x.ik x.id x.am x.ad x.np x.ns x.nt x.nd x.dp x.ds x.se x.da).ed.c, .int .i64 (Pv.mk 35 x.pr x.eg x.ed x.ik x.id x.am x.ad x.np x.ns x.nt x.nd x.dp x.ds x.se x.da).ik, .slice (Pv.mk 35 x.pr x.eg x.ed x.ik x.id x.am x.ad x.np x.ns x.nt x.nd x.dp x.ds x.se x.da).id.p (Pv.mk 35 x.pr x.eg x.ed x.ik x.id x.am x.ad x.np x.ns x.nt x.nd x.dp x.ds x.se x.da).id.n (Pv.mk 35 x.pr x.eg x.ed x.ik x.id x.am x.ad x.np x.ns x.nt x.nd x.dp x.ds x.se x.da).id.c, .int .i64 (Pv.mk 35 x.pr x.eg x.ed x.ik x.id x.am x.ad x.np x.ns x.nt x.nd x.dp x.ds x.se x.da).am, .slice (Pv.mk 35 x.pr x.eg x.ed x.ik x.id x.am x.ad x.np x.ns x.nt x.nd x.dp x.ds x.se x.da).ad.p (Pv.mk 35 x.pr x.eg x.ed x.ik x.id x.am x.ad x.np x.ns x.nt x.nd x.dp x.ds x.se x.da).ad.n (Pv.mk 35 x.pr x.eg x.ed x.ik x.id x.am x.ad x.np x.ns x.nt x.nd x.dp x.ds x.se x.da).ad.c, .int .i64 (Pv.mk 35 x.pr x.eg x.ed x.ik x.id x.am x.ad x.np x.ns x.nt x.nd x.dp x.ds x.se x.da).np, .slice (Pv.mk 35 x.pr x.eg x.ed x.ik x.id x.am x.ad x.np x.ns x.nt x.nd x.dp x.ds x.se x.da).ns.p (Pv.mk 35 x.pr x.eg x.ed x.ik x.id x.am x.ad x.np x.ns x.nt x.nd x.dp x.ds x.se x.da).ns.n (Pv.mk 35 x.pr x.eg x.ed x.ik x.id x.am x.ad x.np x.ns x.nt x.nd x.dp x.ds x.se x.da).ns.c, .int .i64 (Pv.mk 35 x.pr x.eg x.ed x.ik x.id x.am x.ad x.np x.ns x.nt x.nd x.dp x.ds x.se x.da).nt, .slice (Pv.mk 35 x.pr x.eg x.ed x.ik x.id x.am x.ad x.np x.ns x.nt x.nd x.dp x.ds x.se x.da).nd.p (Pv.mk 35 x.pr x.eg x.ed x.ik x.id x.am x.ad x.np x.ns x.nt x.nd x.dp x.ds x.se x.da).nd.n (Pv.mk 35 x.pr x.eg x.ed x.ik x.id x.am x.ad x.np x.ns x.nt x.nd x.dp x.ds x.se x.da).nd.c, .int .i64 (Pv.mk 35 x.pr x.eg x.ed x.ik x.id x.am x.ad x.np x.ns x.nt x.nd x.dp x.ds x.se x.da).dp, .slice (Pv.mk 35 x.pr x.eg x.ed x.ik x.id x.am x.ad x.np x.ns x.nt x.nd x.dp x.ds x.se x.da).ds.p (Pv.mk 35 x.pr x.eg x.ed x.ik x.id x.am x.ad x.np x.ns x.nt x.nd x.dp x.ds x.se x.da).ds.n (Pv.mk 35 x.pr x.eg x.ed x.ik x.id x.am x.ad x.np x.ns x.nt x.nd x.dp x.ds x.se x.da).ds.c, .slice (Pv.mk 35 x.pr x.eg x.ed x.ik x.id x.am x.ad x.np x.ns x.nt x.nd x.dp x.ds x.se x.da).se.p (Pv.mk 35 x.pr x.eg x.ed x.ik x.id x.am x.ad x.np x.ns x.nt x.nd x.dp x.ds x.se x.da).se.n (Pv.mk 35 x.pr x.eg x.ed x.ik x.id x.am x.ad x.np x.ns x.nt x.nd x.dp x.ds x.se x.da).se.c, .slice (Pv.mk 35 x.pr x.eg x.ed x.ik x.id x.am x.ad x.np x.ns x.nt x.nd x.dp x.ds x.se x.da).da.p (Pv.mk 35 x.pr x.eg x.ed x.ik x.id x.am x.ad x.np x.ns x.nt x.nd x.dp x.ds x.se x.da).da.n (Pv.mk 35 x.pr x.eg x.ed x.ik x.id x.am x.ad x.np x.ns x.nt x.nd x.dp x.ds x.se x.da).da.c] 45)
    have hg3 := G.keep (HGO.out rfl) (fun a v ha hc => cell_below ((Below.refl _ w2).alloc (Nat.le_refl _) (.cells #[.int .i64 (Pv.mk 35 x.pr x.eg x.ed x.ik x.id x.am x.ad x.np x.ns x.nt x.nd x.dp x.ds x.se x.da).t, .slice (Pv.mk 35 x.pr x.eg x.ed x.ik x.id x.am x.ad x.np x.ns x.nt x.nd x.dp x.ds x.se x.da).pr.p (Pv.mk 35 x.pr x.eg x.ed x.ik x.id x.am x.ad x.np x.ns x.nt x.nd x.dp x.ds x.se x.da).pr.n (Pv.mk 35 x.pr x.eg x.ed x.ik x.id x.am x.ad x.np x.ns x.nt x.nd x.dp x.ds x.se x.da).pr.c, .int .i64 (Pv.mk 35 x.pr x.eg x.ed x.ik x.id x.am x.ad x.np x.ns x.nt x.nd x.dp x.ds x.se x.da).eg, .slice (Pv.mk 35 x.pr x.eg x.ed x.ik x.id x.am x.ad x.np x.ns x.nt x.nd x.dp x.ds x.se x.da).ed.p (Pv.mk 35 x.pr x.eg x.ed x.ik x.id x.am x.ad x.np x.ns x.nt x.nd x.dp x.ds x.se x.da).ed.n (Pv.mk 35 x.pr x.eg x.ed x.ik x.id x.am x.ad x.np x.ns x.nt x.nd x.dp x.ds x.se x.da).ed.c, .int .i64 (Pv.mk 35 x.pr x.eg x.ed x.ik x.id x.am x.ad x.np x.ns x.nt x.nd x.dp x.ds x.se x.da).ik, .slice (Pv.mk 35 x.pr x.eg x.ed x.ik x.id x.am x.ad x.np x.ns x.nt x.nd x.dp x.ds x.se x.da).id.p (Pv.mk 35 x.pr x.eg x.ed x.ik x.id x.am x.ad x.np x.ns x.nt x.nd x.dp x.ds x.se x.da).id.n (Pv.mk 35 x.pr x.eg x.ed x.ik x.id x.am x.ad x.np x.ns x.nt x.nd x.dp x.ds x.se x.da).id.c, .int .i64 (Pv.mk 35 x.pr x.eg x.ed x.ik x.id x.am x.ad x.np x.ns x.nt x.nd x.dp x.ds x.se x.da).am, .slice (Pv.mk 35 x.pr x.eg x.ed x.ik x.id x.am x.ad x.np x.ns x.nt x.nd x.dp x.ds x.se x.da).ad.p (Pv.mk 35 x.pr x.eg x.ed x.ik x.id x.am x.ad x.np x.ns x.nt x.nd x.dp x.ds x.se x.da).ad.n (Pv.mk 35 x.pr x.eg x.ed x.ik x.id x.am x.ad x.np x.ns x.nt x.nd x.dp x.ds x.se x.da).ad.c, .int .i64 (Pv.mk 35 x.pr x.eg x.ed x.ik x.id x.am x.ad x.np x.ns x.nt x.nd x.dp x.ds x.se x.da).np, .slice (Pv.mk 35 x.pr x.eg x.ed x.ik x.id x.am x.ad x.np x.ns x.nt x.nd x.dp x.ds x.se x.da).ns.p (Pv.mk 35 x.pr x.eg x.ed x.ik x.id x.am x.ad x.np x.ns x.nt x.nd x.dp x.ds x.se x.da).ns.n (Pv.mk 35 x.pr x.eg x.ed x.ik x.id x.am x.ad x.np x.ns x.nt x.nd x.dp x.ds x.se x.da).ns.c, .int .i64 (Pv.mk 35 x.pr x.eg x.ed x.ik x.id x.am x.ad x.np x.ns x.nt x.nd x.dp x.ds x.se x.da).nt, .slice (Pv.mk 35 x.pr x.eg x.ed x.ik x.id x.am x.ad x.np x.ns x.nt x.nd x.dp x.ds x.se x.da).nd.p (Pv.mk 35 x.pr x.eg x.ed x.ik x.id x.am x.ad x.np x.ns x.nt x.nd x.dp x.ds x.se x.da).nd.n (Pv.mk 35 x.pr x.eg x.ed x.ik x.id x.am x.ad x.np x.ns x.nt x.nd x.dp x.ds x.se x.da).nd.c, .int .i64 (Pv.mk 35 x.pr x.eg x.ed x.ik x.id x.am x.ad x.np x.ns x.nt x.nd x.dp x.ds x.se x.da).dp, .slice (Pv.mk 35 x.pr x.eg x.ed x.ik x.id x.am x.ad x.np x.ns x.nt x.nd x.dp x.ds x.se x.da).ds.p (Pv.mk 35 x.pr x.eg x.ed x.ik x.id x.am x.ad x.np x.ns x.nt x.nd x.dp x.ds x.se x.da).ds.n (Pv.mk 35 x.pr x.eg x.ed x.ik x.id x.am x.ad x.np x.ns x.nt x.nd x.dp x.ds x.se x.da).ds.c, .slice (Pv.mk 35 x.pr x.eg x.ed x.ik x.id x.am x.ad x.np x.ns x.nt x.nd x.dp x.ds x.se x.da).se.p (Pv.mk 35 x.pr x.eg x.ed x.ik x.id x.am x.ad x.np x.ns x.nt x.nd x.dp x.ds x.se x.da).se.n (Pv.mk 35 x.pr x.eg x.ed x.ik x.id x.am x.ad x.np x.ns x.nt x.nd x.dp x.ds x.se x.da).se.c, .slice (Pv.mk 35 x.pr x.eg x.ed x.ik x.id x.am x.ad x.np x.ns x.nt x.nd x.dp x.ds x.se x.da).da.p (Pv.mk 35 x.pr x.eg x.ed x.ik x.id x.am x.ad x.np x.ns x.nt x.nd x.dp x.ds x.se x.da).da.n (Pv.mk 35 x.pr x.eg x.ed x.ik x.id x.am x.ad x.np x.ns x.nt x.nd x.dp x.ds x.se x.da).da.c] 45)) _ _ hc)
    simp only at hk3 hz3 hb3 hg3
    have HK3 := hidden hk3
    have HZ3 := hidden hz3
    have HB3 := hidden hb3
    have HG3 := hidden hg3
    clear hk3 hz3 hb3 hg3 HGO HZA HBA
    go_upto_region 6 with fail
    clear d0
    generalize hw3 : w2.alloc (.cells #[.int .i64 35, .slice x.pr.p x.pr.n x.pr.c, .int .i64 x.eg, .slice x.ed.p x.ed.n x.ed.c, .int .i64 x.ik, .slice x.id.p x.id.n x.id.c, .int .i64 x.am, .slice x.ad.p x.ad.n x.ad.c, .int .i64 x.np, .slice x.ns.p x.ns.n x.ns.c, .int .i64 x.nt, .slice x.nd.p x.nd.n x.nd.c, .int .i64 x.dp, .slice x.ds.p x.ds.n x.ds.c, .slice x.se.p x.se.n x.se.c, .slice x.da.p x.da.n x.da.c] 45) = w3 at *
    generalize w2.heap.size = g5 at *
    clear hw3
    obtain ⟨k0, k1, k2, k3, k4, k5, k6, k7, k8, k9, k10, k11, k12, k13, k14, k15, kfr⟩ := HK3.out
    obtain ⟨y0, y1, y2, y3, y4, y5, y6, y7, y8, y9, y10, y11, y12, y13, y14, y15, z0, z1, z2, z3, z4, z5, z6, z7, z8, z9, z10, z11, z12, z13, z14, z15, zf⟩ := HZ3.out.any
    have hz := stored_pv HZ3.out HB3.out (by omega) { x with t := 35 }
    have hgd := (G.ty 35 (G.keep HG3.out (fun a v ha hc => (setPv_grown w3 (w.heap.size + 1) { x with t := 35 }).cell hc (by rw [HSZ.out] at ha; simp; omega))))
    simp only [setPv] at hz hgd
    have HZZ := hidden hz
    have HGG := hidden (G.mono hgd (by rw [HSZ.out]; omega : w.heap.size ≤ _))
    clear hz hgd
    go_wp2
    exact ret_pv (g := w.heap.size + 1) rfl rfl rfl rfl HZZ.out.1 ⟨_, rfl, HZZ.out.2, Or.inl ⟨rfl, rfl, HGG.out⟩⟩
  · have hE' : (E != 0) = true := by simpa using hE
    have HE := hidden hE
    clear hE HGO
    have HZ2 := hidden (HZA.out.alloc (.cells #[.int .i64 x.t, .slice x.pr.p x.pr.n x.pr.c, .int .i64 x.eg, .slice x.ed.p x.ed.n x.ed.c, .int .i64 x.ik, .slice x.id.p x.id.n x.id.c, .int .i64 x.am, .slice x.ad.p x.ad.n x.ad.c, .int .i64 x.np, .slice x.ns.p x.ns.n x.ns.c, .int .i64 x.nt, .slice x.nd.p x.nd.n x.nd.c, .int .i64 x.dp, .slice x.ds.p x.ds.n x.ds.c, .slice x.se.p x.se.n x.se.c, .slice x.da.p x.da.n x.da.c] 45))
    have HB2 := hidden (HBA.out.alloc HBA.out.size (.cells #[.int .i64 x.t, .slice x.pr.p x.pr.n x.pr.c, .int .i64 x.eg, .slice x.ed.p x.ed.n x.ed.c, .int .i64 x.ik, .slice x.id.p x.id.n x.id.c, .int .i64 x.am, .slice x.ad.p x.ad.n x.ad.c, .int .i64 x.np, .slice x.ns.p x.ns.n x.ns.c, .int .i64 x.nt, .slice x.nd.p x.nd.n x.nd.c, .int .i64 x.dp, .slice x.ds.p x.ds.n x.ds.c, .slice x.se.p x.se.n x.se.c, .slice x.da.p x.da.n x.da.c] 45))
    clear HZA HBA
    generalize hw3 : w2.alloc (.cells #[.int .i64 x.t, .slice x.pr.p x.pr.n x.pr.c, .int .i64 x.eg, .slice x.ed.p x.ed.n x.ed.c, .int .i64 x.ik, .slice x.id.p x.id.n x.id.c, .int .i64 x.am, .slice x.ad.p x.ad.n x.ad.c, .int .i64 x.np, .slice x.ns.p x.ns.n x.ns.c, .int .i64 x.nt, .slice x.nd.p x.nd.n x.nd.c, .int .i64 x.dp, .slice x.ds.p x.ds.n x.ds.c, .slice x.se.p x.se.n x.se.c, .slice x.da.p x.da.n x.da.c] 45) = w3 at *
    obtain ⟨y0, y1, y2, y3, y4, y5, y6, y7, y8, y9, y10, y11, y12, y13, y14, y15, z0, z1, z2, z3, z4, z5, z6, z7, z8, z9, z10, z11, z12, z13, z14, z15, zf⟩ := HZ2.out.any
    have hz := stored_pv HZ2.out HB2.out (by omega) zeroP
    simp only [setPv, zeroP, nilV] at hz
    have HZZ := hidden hz
    clear hz hw3
    go_wp2
    exact ret_pv (g := w.heap.size + 1) rfl rfl rfl rfl HZZ.out.1 ⟨zeroP, rfl, HZZ.out.2, Or.inr ⟨HE.out, rfl⟩⟩
end Go.Proofs.YtbpmanbpmlkmnaaGreatDoor

namespace Go.Proofs.YtbpmanbpmlkmnaaGreatDoor
open Go.RowKit
set_option linter.unusedVariables false

theorem reader_36 (p : Option Addr) (n c : Nat) (w : World) :
    Calls Tryz.prog 19 #[.slice p n c, .int .i64 36] w fun e w' => e = .returned (.func (.func 43) #[.slice p n c] #[]) ∧ w = w' := by
  go_enter Tryz.func19, Tryz.ntmps19
  go_wp2
  go_ret
  exact ⟨rfl, rfl⟩

set_option maxHeartbeats 1600000 in
set_option maxRecDepth 100000 in
theorem pparse_36 (p : Option Addr) (n c : Nat) (xs : List Int) (cr : Bool) (E : Int) (G : Gd) (w : World) (h : Byt w p n c xs) (HRD : ∀ w, Byt w p n c xs → Calls Tryz.prog 43 #[.slice p n c] w (ReadPv w E (fun w' x => G.ok w.heap.size w' x))) :
    Calls Tryz.prog 10 #[.agg #[.int .i64 36, .bool cr, .slice p n c]] w (ParsedV w 36 E G) := by
  have HX := hidden ((h.alloc (.cells #[.int .i64 36, .bool cr, .slice p n c] 27)).alloc (.cells #[.int .i64 0, .slice none 0 0, .int .i64 0, .slice none 0 0, .int .i64 0, .slice none 0 0, .int .i64 0, .slice none 0 0, .int .i64 0, .slice none 0 0, .int .i64 0, .slice none 0 0, .int .i64 0, .slice none 0 0, .slice none 0 0, .slice none 0 0] 45))
  have HB := hidden (((Below.refl w.heap.size w).alloc (Nat.le_refl _) (.cells #[.int .i64 36, .bool cr, .slice p n c] 27)).alloc (by simp) (.cells #[.int .i64 0, .slice none 0 0, .int .i64 0, .slice none 0 0, .int .i64 0, .slice none 0 0, .int .i64 0, .slice none 0 0, .int .i64 0, .slice none 0 0, .int .i64 0, .slice none 0 0, .int .i64 0, .slice none 0 0, .slice none 0 0, .slice none 0 0] 45))
  have HZ : Hid (PvIn ((w.alloc (.cells #[.int .i64 36, .bool cr, .slice p n c] 27)).alloc (.cells #[.int .i64 0, .slice none 0 0, .int .i64 0, .slice none 0 0, .int .i64 0, .slice none 0 0, .int .i64 0, .slice none 0 0, .int .i64 0, .slice none 0 0, .int .i64 0, .slice none 0 0, .int .i64 0, .slice none 0 0, .slice none 0 0, .slice none 0 0] 45)) (w.heap.size + 1) zeroP) := hidden (by
    have := PvIn.new (w.alloc (.cells #[.int .i64 36, .bool cr, .slice p n c] 27)) zeroP 45
    simpa [zeroP, nilV] using this)
  have HW0 := hidden (show ((w.alloc (.cells #[.int .i64 36, .bool cr, .slice p n c] 27)).alloc (.cells #[.int .i64 0, .slice none 0 0, .int .i64 0, .slice none 0 0, .int .i64 0, .slice none 0 0, .int .i64 0, .slice none 0 0, .int .i64 0, .slice none 0 0, .int .i64 0, .slice none 0 0, .int .i64 0, .slice none 0 0, .slice none 0 0, .slice none 0 0] 45)).cell? ⟨w.heap.size, 0, none⟩ = some (.int .i64 36) by go_simp)
  have HSZ := hidden (show ((w.alloc (.cells #[.int .i64 36, .bool cr, .slice p n c] 27)).alloc (.cells #[.int .i64 0, .slice none 0 0, .int .i64 0, .slice none 0 0, .int .i64 0, .slice none 0 0, .int .i64 0, .slice none 0 0, .int .i64 0, .slice none 0 0, .int .i64 0, .slice none 0 0, .int .i64 0, .slice none 0 0, .slice none 0 0, .slice none 0 0] 45)).heap.size = w.heap.size + 1 + 1 by simp)
  have HR := hidden HRD
  clear h HRD
  go_enter Tryz.func10, Tryz.ntmps10
  go_upto_region 3 with (first
    | (go_at_call 19; (with_reducible refine (reader_36 _ _ _ _).mono ?_); rintro e w' ⟨rfl, rfl⟩)
    | (go_at_call 43; (with_reducible refine (HR.out _ HX.out).mono ?_); rintro e w2 ⟨x, rfl, hb2, hgood⟩; have HBA := hidden (HB.out.trans (hb2.mono HB.out.size)); have HZA := hidden (HZ.out.below hb2); have HGO := hidden hgood; have HDA := hidden (cell_below hb2 _ _ HW0.out); have d0 := cell_below ((Below.refl _ w2).alloc (Nat.le_refl _) (.cells #[.int .i64 x.t, .slice x.pr.p x.pr.n x.pr.c, .int .i64 x.eg, .slice x.ed.p x.ed.n x.ed.c, .int .i64 x.ik, .slice x.id.p x.id.n x.id.c, .int .i64 x.am, .slice x.ad.p x.ad.n x.ad.c, .int .i64 x.np, .slice x.ns.p x.ns.n x.ns.c, .int .i64 x.nt, .slice x.nd.p x.nd.n x.nd.c, .int .i64 x.dp, .slice x.ds.p x.ds.n x.ds.c, .slice x.se.p x.se.n x.se.c, .slice x.da.p x.da.n x.da.c] 45)) _ _ HDA.out; have HSB := hidden hb2.size; clear hb2 hgood)
    | fail)
  have hsb := HSB.out
  rw [HSZ.out] at hsb
  have hne1 : ¬ w2.heap.size = w.heap.size + 1 := by omega
  have hne2 : ¬ w.heap.size + 1 = w2.heap.size := by omega
  by_cases hE : E = 0
  · subst hE
    have hk3 := PvIn.new w2 { x with t := 36 } 45
    have hz3 := HZA.out.alloc (.cells #[.int .i64 (Pv.mk 36 x.pr x.eg x.ed x.ik x.id x.am x.ad x.np x.ns x.nt x.nd x.dp x.ds x.se x.da).t, .slice (Pv.mk 36 x.pr x.eg x.ed x.ik x.id x.am x.ad x.np x.ns x.nt x.nd x.dp x.ds x.se x.da).pr.p (Pv.mk 36 x.pr x.eg x.ed x.ik x.id x.am x.ad x.np x.ns x.nt x.nd x.dp x.ds x.se x.da).pr.n (Pv.mk 36 x.pr x.eg x.ed x.ik x.id x.am x.ad x.np x.ns x.nt x.nd x.dp x.ds x.se x.da).pr.c, .int .i64 (Pv.mk 36 x.pr x.eg x.ed x.ik x.id x.am x.ad x.np x.ns x.nt x.nd x.dp x.ds x.se x.da).eg, .slice (Pv.mk 36 x.pr x.eg x.ed x.ik x.id x.am x.ad x.np x.ns x.nt x.nd x.dp x.ds x.se x.da).ed.p (Pv.mk 36 x.pr x.eg x.ed x.ik x.id x.am x.ad x.np x.ns x.nt x.nd x.dp x.ds x.se x.da).ed.n (Pv.mk 36 x.pr x.eg x.ed x.ik x.id x.am x.ad x.np x.ns x.nt x.nd x.dp x.ds x.se x.da).ed.c, .int .i64 (Pv.mk 36 x.pr x.eg x.ed x.ik x.id x.am x.ad x.np x.ns x.nt x.nd x.dp x.ds x.se x.da).ik, .slice (Pv.mk 36 x.pr x.eg x.ed x.ik x.id x.am x.ad x.np x.ns x.nt x.nd x.dp x.ds x.se x.da).id.p (Pv.mk 36 x.pr x.eg x.ed x.ik x.id x.am x.ad x.np x.ns x.nt x.nd x.dp x.ds x.se x.da).id.n (Pv.mk 36 x.pr x.eg x.ed x.ik x.id x.am x.ad x.np x.ns x.nt x.nd x.dp x.ds x.se x.da).id.c, .int .i64 (Pv.mk 36 x.pr x.eg x.ed x.ik x.id x.am x.ad x.np x.ns x.nt x.nd x.dp x.ds x.se x.da).am, .slice (Pv.mk 36 x.pr x.eg x.ed x.ik x.id x.am x.ad x.np x.ns x.nt x.nd x.dp x.ds x.se x.da).ad.p (Pv.mk 36 x.pr x.eg x.ed x.ik x.id x.am x.ad x.np x.ns x.nt x.nd x.dp x.ds x.se x.da).ad.n (Pv.mk 36 x.pr x.eg x.ed x.ik x.id x.am x.ad x.np x.ns x.nt x.nd x.dp x.ds x.se x.da).ad.c, .int .i64 (Pv.mk 36 x.pr x.eg x.ed x.ik x.id x.am x.ad x.np x.ns x.nt x.nd x.dp x.ds x.se x.da).np, .slice (Pv.mk 36 x.pr x.eg x.ed x.ik x.id x.am x.ad x.np x.ns x.nt x.nd x.dp x.ds x.se x.da).ns.p (Pv.mk 36 x.pr x.eg x.ed x.ik x.id x.am x.ad x.np x.ns x.nt x.nd x.dp x.ds x.se x.da).ns.n (Pv.mk 36 x.pr x.eg x.ed x.ik x.id x.am x.ad x.np x.ns x.nt x.nd x.dp x.ds x.se x.da).ns.c, .int .i64 (Pv.mk 36 x.pr x.eg x.ed x.ik x.id x.am x.ad x.np x.ns x.nt x.nd x.dp x.ds x.se x.da).nt, .slice (Pv.mk 36 x.pr x.eg x.ed x.ik x.id x.am x.ad x.np x.ns x.nt x.nd x.dp x.ds x.se x.da).nd.p (Pv.mk 36 x.pr x.eg x.ed x.ik x.id x.am x.ad x.np x.ns x.nt x.nd x.dp x.ds x.se x.da).nd.n (Pv.mk 36 x.pr x.eg x.ed x.ik x.id x.am x.ad x.np x.ns x.nt x.nd x.dp x.ds x.se x.da).nd.c, .int .i64 (Pv.mk 36 x.pr x.eg x.ed x.ik x.id x.am x.ad x.np x.ns x.nt x.nd x.dp x.ds x.se x.da).dp, .slice (Pv.mk 36 x.pr x.eg x.ed x.ik x.id x.am x.ad x.np x.ns x.nt x.nd x.dp x.ds x.se x.da).ds.p (Pv.mk 36 x.pr x.eg x.ed x.ik x.id x.am x.ad x.np x.ns x.nt x.nd x.dp x.ds x.se x.da).ds.n (Pv.mk 36 x.pr x.eg x.ed x.ik x.id x.am x.ad x.np x.ns x.nt x.nd x.dp x.ds x.se x.da).ds.c, .slice (Pv.mk 36 x.pr x.eg x.ed x.ik x.id x.am x.ad x.np x.ns x.nt x.nd x.dp x.ds x.se x.da).se.p (Pv.mk 36 x.pr x.eg x.ed x.ik x.id x.am x.ad x.np x.ns x.nt x.nd x.dp x.ds x.se x.da).se.n (Pv.mk 36 x.pr x.eg x.ed x.ik x.id x.am x.ad x.np x.ns x.nt x.nd x.dp x.ds x.se x.da).se.c, .slice (Pv.mk 36 x.pr x.eg x.ed x.ik x.id x.am x.ad x.np x.ns x.nt x.nd x.dp x.ds x.se x.da).da.p (Pv.mk 36 x.pr x.eg x.ed x.ik x.id x.am x.ad x.np x.ns x.nt x.nd x.dp x.ds x.se x.da).da.n (Pv.mk 36 x.pr x.eg x.ed x.ik x.id x.am x.ad x.np x.ns x.nt x.nd x.dp x.ds x.se x.da).da.c] 45)
    have hb3 := HBA.out.alloc HBA.out.size (.cells #[.int .i64 (Pv.mk 36 x.pr x.eg x.ed x.ik x.id x.am x.ad x.np x.ns x.nt x.nd x.dp x.ds x.se x.da).t, .slice (Pv.mk 36 x.pr x.eg x.ed x.ik x.id x.am x.ad x.np x.ns x.nt x.nd x.dp x.ds x.se x.da).pr.p (Pv.mk 36 x.pr x.eg x.ed x.ik x.id x.am x.ad x.np x.ns x.nt x.nd x.dp x.ds x.se x.da).pr.n (Pv.mk 36 x.pr x.eg x.ed x.ik x.id x.am x.ad x.np x.ns x.nt x.nd x.dp x.ds x.se x.da).pr.c, .int .i64 (Pv.mk 36 x.pr x.eg x.ed x.ik x.id x.am x.ad x.np x.ns x.nt x.nd x.dp x.ds x.se x.da).eg, .slice (Pv.mk 36 x.pr x.eg x.ed x.ik x.id x.am x.ad x.np x.ns x.nt x.nd x.dp x.ds x.se x.da).ed.p (Pv.mk 36 x.pr x.eg x.ed x.ik x.id x.am x.ad x.np x.ns x.nt x.nd x.dp x.ds x.se x.da).ed.n (Pv.mk 36 x.pr x.eg x.ed x.ik x.id x.am x.ad x.np x.ns x.nt x.nd x.dp x.ds x.se x.da).ed.c, .int .i64 (Pv.mk 36 x.pr x.eg x.ed x.ik x.id x.am x.ad x.np x.ns x.nt x.nd x.dp x.ds x.se x.da).ik, .slice (Pv.mk 36 x.pr x.eg x.ed x.ik x.id x.am x.ad x.np x.ns x.nt x.nd x.dp x.ds x.se x.da).id.p (Pv.mk 36 x.pr x.eg x.ed x.ik x.id x.am x.ad x.np x.ns x.nt x.nd x.dp x.ds x.se x.da).id.n (Pv.mk 36 x.pr x.eg x.ed x.ik x.id x.am x.ad x.np x.ns x.nt x.nd x.dp x.ds x.se x.da).id.c, .int .i64 (Pv.mk 36 x.pr x.eg x.ed x.ik x.id x.am x.ad x.np x.ns x.nt x.nd x.dp x.ds x.se x.da).am, .slice (Pv.mk 36 x.pr x.eg x.ed x.ik x.id x.am x.ad x.np x.ns x.nt x.nd x.dp x.ds x.se x.da).ad.p (Pv.mk 36 x.pr x.eg x.ed x.ik x.id x.am x.ad x.np x.ns x.nt x.nd x.dp x.ds x.se x.da).ad.n (Pv.mk 36 x.pr x.eg x.ed x.ik x.id x.am x.ad x.np x.ns x.nt x.nd x.dp x.ds x.se x.da).ad.c, .int .i64 (Pv.mk 36 x.pr x.eg x.ed x.ik x.id x.am x.ad x.np x.ns x.nt x.nd x.dp x.ds x.se x.da).np, .slice (Pv.mk 36 x.pr x.eg x.ed x.ik x.id x.am x.ad x.np x.ns x.nt x.nd x.dp x.ds x.se x.da).ns.p (Pv.mk 36 x.pr x.eg x.ed x.ik x.id x.am x.ad x.np x.ns x.nt x.nd x.dp x.ds x.se x.da).ns.n (Pv.mk 36 x.pr x.eg x.ed x.ik x.id x.am x.ad x.np x.ns x.nt x.nd x.dp x.ds x.se x.da).ns.c, .int .i64 (Pv.mk 36 x.pr x.eg x.ed x.ik x.id x.am x.ad x.np x.ns x.nt x.nd x.dp x.ds x.se x.da).nt, .slice (Pv.mk 36 x.pr x.eg x.ed x.ik x.id x.am x.ad x.np x.ns x.nt x.nd x.dp x.ds x.se x.da).nd.p (Pv.mk 36 x.pr x.eg x.ed x.ik x.id x.am x.ad x.np x.ns x.nt x.nd x.dp x.ds x.se x.da).nd.n (Pv.mk 36 x.pr x.eg x.ed x.ik x.id x.am x.ad x.np x.ns x.nt x.nd x.dp x.ds x.se x.da).nd.c, .int .i64 (Pv.mk 36 x.pr x.eg x.ed x.ik x.id x.am x.ad x.np x.ns x.nt x.nd x.dp x.ds x.se x.da).dp, .slice (Pv.mk 36 x.pr x.eg x.ed x.ik x.id x.am x.ad x.np x.ns x.nt x.nd x.dp x.ds x.se x.da).ds.p (Pv.mk 36 x.pr x.eg x.ed x.ik x.id x.am x.ad x.np x.ns x.nt x.nd x.dp x.ds x.se x.da).ds.n (Pv.mk 36 x.pr x.eg x.ed x.ik x.id x.am x.ad x.np x.ns x.nt x.nd x.dp x.ds x.se x.da).ds.c, .slice (Pv.mk 36 x.pr x.eg x.ed x.ik x.id x.am x.ad x.np x.ns x.nt x.nd x.dp x.ds x.se x.da).se.p (Pv.mk 36 x.pr x.eg x.ed x.ik x.id x.am x.ad x.np x.ns x.nt x.nd x.dp x.ds x.se x.da).se.n (Pv.mk 36 x.pr x.eg x.ed x.ik x.id x.am x.ad x.np x.ns x.nt x.nd x.dp x.ds x.se x.da).se.c, .slice (Pv.mk 36 x.pr x.eg x.ed x.ik x.id x.am x.ad x.np x.ns x.nt x.nd x.dp x.ds x.se x.da).da.p (Pv.mk 36 x.pr x.eg x.ed x.ik x.id x.am x.ad x.np x.ns x.nt x.nd x.dp x.ds x.se x.da).da.n (Pv.mk 36 x.pr x.eg x.ed x.ik x.id x.am x.ad x.np x.ns x.nt x.nd x.dp x.ds x.se x.da).da.c] 45)
    have hg3 := G.keep (HGO.out rfl) (fun a v ha hc => cell_below ((Below.refl _ w2).alloc (Nat.le_refl _) (.cells #[.int .i64 (Pv.mk 36 x.pr x.eg x.ed x.ik x.id x.am x.ad x.np x.ns x.nt x.nd x.dp x.ds x.se x.da).t, .slice (Pv.mk 36 x.pr x.eg x.ed x.ik x.id x.am x.ad x.np x.ns x.nt x.nd x.dp x.ds x.se x.da).pr.p (Pv.mk 36 x.pr x.eg x.ed x.ik x.id x.am x.ad x.np x.ns x.nt x.nd x.dp x.ds x.se x.da).pr.n (Pv.mk 36 x.pr x.eg x.ed x.ik x.id x.am x.ad x.np x.ns x.nt x.nd x.dp x.ds x.se x.da).pr.c, .int .i64 (Pv.mk 36 x.pr x.eg x.ed x.ik x.id x.am x.ad x.np x.ns x.nt x.nd x.dp x.ds x.se x.da).eg, .slice (Pv.mk 36 x.pr x.eg x.ed x.ik x.id x.am x.ad x.np x.ns x.nt x.nd x.dp x.ds x.se x.da).ed.p (Pv.mk 36 x.pr x.eg x.ed x.ik x.id x.am x.ad x.np x.ns x.nt x.nd x.dp x.ds x.se x.da).ed.n (Pv.mk 36 x.pr x.eg x.ed x.ik x.id x.am x.ad x.np x.ns x.nt x.nd x.dp x.ds x.se x.da).ed.c, .int .i64 (Pv.mk 36 x.pr x.eg x.ed x.ik x.id x.am x.ad x.np x.ns x.nt x.nd x.dp x.ds x.se x.da).ik, .slice (Pv.mk 36 x.pr x.eg x.ed x.ik x.id x.am x.ad x.np x.ns x.nt x.nd x.dp x.ds x.se x.da).id.p (Pv.mk 36 x.pr x.eg x.ed x.ik x.id x.am x.ad x.np x.ns x.nt x.nd x.dp x.ds x.se x.da).id.n (Pv.mk 36 x.pr x.eg x.ed x.ik x.id x.am x.ad x.np x.ns x.nt x.nd x.dp x.ds x.se x.da).id.c, .int .i64 (Pv.mk 36 x.pr x.eg x.ed x.ik x.id x.am x.ad x.np x.ns x.nt x.nd x.dp x.ds x.se x.da).am, .slice (Pv.mk 36 x.pr x.eg x.ed x.ik x.id x.am x.ad x.np x.ns x.nt x.nd x.dp x.ds x.se x.da).ad.p (Pv.mk 36 x.pr x.eg x.ed x.ik x.id x.am x.ad x.np x.ns x.nt x.nd x.dp x.ds x.se x.da).ad.n (Pv.mk 36 x.pr x.eg x.ed x.ik x.id x.am x.ad x.np x.ns x.nt x.nd x.dp x.ds x.se x.da).ad.c, .int .i64 (Pv.mk 36 x.pr x.eg x.ed x.ik x.id x.am x.ad x.np x.ns x.nt x.nd x.dp x.ds x.se x.da).np, .slice (Pv.mk 36 x.pr x.eg x.ed x.ik x.id x.am x.ad x.np x.ns x.nt x.nd x.dp x.ds x.se x.da).ns.p (Pv.mk 36 x.pr x.eg x.ed x.ik x.id x.am x.ad x.np x.ns x.nt x.nd x.dp x.ds x.se x.da).ns.n (Pv.mk 36 x.pr x.eg x.ed x.ik x.id x.am x.ad x.np x.ns x.nt x.nd x.dp x.ds x.se x.da).ns.c, .int .i64 (Pv.mk 36 x.pr x.eg x.ed x.ik x.id x.am x.ad x.np x.ns x.nt x.nd x.dp x.ds x.se x.da).nt, .slice (Pv.mk 36 x.pr x.eg x.ed x.ik x.id x.am x.ad x.np x.ns x.nt x.nd x.dp x.ds x.se x.da).nd.p (Pv.mk 36 x.pr x.eg x.ed x.ik x.id x.am x.ad x.np x.ns x.nt x.nd x.dp x.ds x.se x.da).nd.n (Pv.mk 36 x.pr x.eg x.ed x.ik x.id x.am x.ad x.np x.ns x.nt x.nd x.dp x.ds x.se x.da).nd.c, .int .i64 (Pv.mk 36 x.pr x.eg x.ed x.ik x.id x.am x.ad x.np x.ns x.nt x.nd x.dp x.ds x.se x.da).dp, .slice (Pv.mk 36 x.pr x.eg x.ed x.ik x.id x.am x.ad x.np x.ns x.nt x.nd x.dp x.ds x.se x.da).ds.p (Pv.mk 36 x.pr x.eg x.ed x.ik x.id x.am x.ad x.np x.ns x.nt x.nd x.dp x.ds x.se x.da).ds.n (Pv.mk 36 x.pr x.eg x.ed x.ik x.id x.am x.ad x.np x.ns x.nt x.nd x.dp x.ds x.se x.da).ds.c, .slice (Pv.mk 36 x.pr x.eg x.ed x.ik x.id x.am x.ad x.np x.ns x.nt x.nd x.dp x.ds x.se x.da).se.p (Pv.mk 36 x.pr x.eg x.ed x.ik x.id x.am x.ad x.np x.ns x.nt x.nd x.dp x.ds x.se x.da).se.n (Pv.mk 36 x.pr x.eg x.ed x.ik x.id x.am x.ad x.np x.ns x.nt x.nd x.dp x.ds x.se x.da).se.c, .slice (Pv.mk 36 x.pr x.eg x.ed x.ik x.id x.am x.ad x.np x.ns x.nt x.nd x.dp x.ds x.se x.da).da.p (Pv.mk 36 x.pr x.eg x.ed x.ik x.id x.am x.ad x.np x.ns x.nt x.nd x.dp x.ds x.se x.da).da.n (Pv.mk 36 x.pr x.eg x.ed x.ik x.id x.am x.ad x.np x.ns x.nt x.nd x.dp x.ds x.se x.da).da.c] 45)) _ _ hc)
    simp only at hk3 hz3 hb3 hg3
    have HK3 := hidden hk3
    have HZ3 := hidden hz3
    have HB3 := hidden hb3
    have HG3 := hidden hg3
    clear hk3 hz3 hb3 hg3 HGO HZA HBA
    go_upto_region 6 with fail
    clear d0
    generalize hw3 : w2.alloc (.cells #[.int .i64 36, .slice x.pr.p x.pr.n x.pr.c, .int .i64 x.eg, .slice x.ed.p x.ed.n x.ed.c, .int .i64 x.ik, .slice x.id.p x.id.n x.id.c, .int .i64 x.am, .slice x.ad.p x.ad.n x.ad.c, .int .i64 x.np, .slice x.ns.p x.ns.n x.ns.c, .int .i64 x.nt, .slice x.nd.p x.nd.n x.nd.c, .int .i64 x.dp, .slice x.ds.p x.ds.n x.ds.c, .slice x.se.p x.se.n x.se.c, .slice x.da.p x.da.n x.da.c] 45) = w3 at *
    generalize w2.heap.size = g5 at *
    clear hw3
    obtain ⟨k0, k1, k2, k3, k4, k5, k6, k7, k8, k9, k10, k11, k12, k13, k14, k15, kfr⟩ := HK3.out
    obtain ⟨y0, y1, y2, y3, y4, y5, y6, y7, y8, y9, y10, y11, y12, y13, y14, y15, z0, z1, z2, z3, z4, z5, z6, z7, z8, z9, z10, z11, z12, z13, z14, z15, zf⟩ := HZ3.out.any
    have hz := stored_pv HZ3.out HB3.out (by omega) { x with t := 36 }
    have hgd := (G.ty 36 (G.keep HG3.out (fun a v ha hc => (setPv_grown w3 (w.heap.size + 1) { x with t := 36 }).cell hc (by rw [HSZ.out] at ha; simp; omega))))
    simp only [setPv] at hz hgd
    have HZZ := hidden hz
    have HGG := hidden (G.mono hgd (by rw [HSZ.out]; omega : w.heap.size ≤ _))
    clear hz hgd
    go_wp2
    exact ret_pv (g := w.heap.size + 1) rfl rfl rfl rfl HZZ.out.1 ⟨_, rfl, HZZ.out.2, Or.inl ⟨rfl, rfl, HGG.out⟩⟩
  · have hE' : (E != 0) = true := by simpa using hE
    have HE := hidden hE
    clear hE HGO
    have HZ2 := hidden (HZA.out.alloc (.cells #[.int .i64 x.t, .slice x.pr.p x.pr.n x.pr.c, .int .i64 x.eg, .slice x.ed.p x.ed.n x.ed.c, .int .i64 x.ik, .slice x.id.p x.id.n x.id.c, .int .i64 x.am, .slice x.ad.p x.ad.n x.ad.c, .int .i64 x.np, .slice x.ns.p x.ns.n x.ns.c, .int .i64 x.nt, .slice x.nd.p x.nd.n x.nd.c, .int .i64 x.dp, .slice x.ds.p x.ds.n x.ds.c, .slice x.se.p x.se.n x.se.c, .slice x.da.p x.da.n x.da.c] 45))
    have HB2 := hidden (HBA.out.alloc HBA.out.size (.cells #[.int .i64 x.t, .slice x.pr.p x.pr.n x.pr.c, .int .i64 x.eg, .slice x.ed.p x.ed.n x.ed.c, .int .i64 x.ik, .slice x.id.p x.id.n x.id.c, .int .i64 x.am, .slice x.ad.p x.ad.n x.ad.c, .int .i64 x.np, .slice x.ns.p x.ns.n x.ns.c, .int .i64 x.nt, .slice x.nd.p x.nd.n x.nd.c, .int .i64 x.dp, .slice x.ds.p x.ds.n x.ds.c, .slice x.se.p x.se.n x.se.c, .slice x.da.p x.da.n x.da.c] 45))
    clear HZA HBA
    generalize hw3 : w2.alloc (.cells #[.int .i64 x.t, .slice x.pr.p x.pr.n x.pr.c, .int .i64 x.eg, .slice x.ed.p x.ed.n x.ed.c, .int .i64 x.ik, .slice x.id.p x.id.n x.id.c, .int .i64 x.am, .slice x.ad.p x.ad.n x.ad.c, .int .i64 x.np, .slice x.ns.p x.ns.n x.ns.c, .int .i64 x.nt, .slice x.nd.p x.nd.n x.nd.c, .int .i64 x.dp, .slice x.ds.p x.ds.n x.ds.c, .slice x.se.p x.se.n x.se.c, .slice x.da.p x.da.n x.da.c] 45) = w3 at *
    obtain ⟨y0, y1, y2, y3, y4, y5, y6, y7, y8, y9, y10, y11, y12, y13, y14, y15, z0, z1, z2, z3, z4, z5, z6, z7, z8, z9, z10, z11, z12, z13, z14, z15, zf⟩ := HZ2.out.any
    have hz := stored_pv HZ2.out HB2.out (by omega) zeroP
    simp only [setPv, zeroP, nilV] at hz
    have HZZ := hidden hz
    clear hz hw3
    go_wp2
    exact ret_pv (g := w.heap.size + 1) rfl rfl rfl rfl HZZ.out.1 ⟨zeroP, rfl, HZZ.out.2, Or.inr ⟨HE.out, rfl⟩⟩
end Go.Proofs.YtbpmanbpmlkmnaaGreatDoor

namespace Go.Proofs.YtbpmanbpmlkmnaaGreatDoor
open Go.RowKit
set_option linter.unusedVariables false

theorem reader_37 (p : Option Addr) (n c : Nat) (w : World) :
    Calls Tryz.prog 19 #[.slice p n c, .int .i64 37] w fun e w' => e = .returned (.func (.func 49) #[.slice p n c] #[]) ∧ w = w' := by
  go_enter Tryz.func19, Tryz.ntmps19
  go_wp2
  go_ret
  exact ⟨rfl, rfl⟩

set_option maxHeartbeats 1600000 in
set_option maxRecDepth 100000 in
theorem pparse_37 (p : Option Addr) (n c : Nat) (xs : List Int) (cr : Bool) (E : Int) (G : Gd) (w : World) (h : Byt w p n c xs) (HRD : ∀ w, Byt w p n c xs → Calls Tryz.prog 49 #[.slice p n c] w (ReadPv w E (fun w' x => G.ok w.heap.size w' x))) :
    Calls Tryz.prog 10 #[.agg #[.int .i64 37, .bool cr, .slice p n c]] w (ParsedV w 37 E G) := by
  have HX := hidden ((h.alloc (.cells #[.int .i64 37, .bool cr, .slice p n c] 27)).alloc (.cells #[.int .i64 0, .slice none 0 0, .int .i64 0, .slice none 0 0, .int .i64 0, .slice none 0 0, .int .i64 0, .slice none 0 0, .int .i64 0, .slice none 0 0, .int .i64 0, .slice none 0 0, .int .i64 0, .slice none 0 0, .slice none 0 0, .slice none 0 0] 45))
  have HB := hidden (((Below.refl w.heap.size w).alloc (Nat.le_refl _) (.cells #[.int .i64 37, .bool cr, .slice p n c] 27)).alloc (by simp) (.cells #[.int .i64 0, .slice none 0 0, .int .i64 0, .slice none 0 0, .int .i64 0, .slice none 0 0, .int .i64 0, .slice none 0 0, .int .i64 0, .slice none 0 0, .int .i64 0, .slice none 0 0, .int .i64 0, .slice none 0 0, .slice none 0 0, .slice none 0 0] 45))
  have HZ : Hid (PvIn ((w.alloc (.cells #[.int .i64 37, .bool cr, .slice p n c] 27)).alloc (.cells #[.int .i64 0, .slice none 0 0, .int .i64 0, .slice none 0 0, .int .i64 0, .slice none 0 0, .int .i64 0, .slice none 0 0, .int .i64 0, .slice none 0 0, .int .i64 0, .slice none 0 0, .int .i64 0, .slice none 0 0, .slice none 0 0, .slice none 0 0] 45)) (w.heap.size + 1) zeroP) := hidden (by
    have := PvIn.new (w.alloc (.cells #[.int .i64 37, .bool cr, .slice p n c] 27)) zeroP 45
    simpa [zeroP, nilV] using this)
  have HW0 := hidden (show ((w.alloc (.cells #[.int .i64 37, .bool cr, .slice p n c] 27)).alloc (.cells #[.int .i64 0, .slice none 0 0, .int .i64 0, .slice none 0 0, .int .i64 0, .slice none 0 0, .int .i64 0, .slice none 0 0, .int .i64 0, .slice none 0 0, .int .i64 0, .slice none 0 0, .int .i64 0, .slice none 0 0, .slice none 0 0, .slice none 0 0] 45)).cell? ⟨w.heap.size, 0, none⟩ = some (.int .i64 37) by go_simp)
  have HSZ := hidden (show ((w.alloc (.cells #[.int .i64 37, .bool cr, .slice p n c] 27)).alloc (.cells #[.int .i64 0, .slice none 0 0, .int .i64 0, .slice none 0 0, .int .i64 0, .slice none 0 0, .int .i64 0, .slice none 0 0, .int .i64 0, .slice none 0 0, .int .i64 0, .slice none 0 0, .int .i64 0, .slice none 0 0, .slice none 0 0, .slice none 0 0] 45)).heap.size = w.heap.size + 1 + 1 by simp)
  have HR := hidden HRD
  clear h HRD
  go_enter Tryz.func10, Tryz.ntmps10
  go_upto_region 3 with (first
    | (go_at_call 19; (with_reducible refine (reader_37 _ _ _ _).mono ?_); rintro e w' ⟨rfl, rfl⟩)
    | (go_at_call 49; (with_reducible refine (HR.out _ HX.out).mono ?_); rintro e w2 ⟨x, rfl, hb2, hgood⟩; have HBA := hidden (HB.out.trans (hb2.mono HB.out.size)); have HZA := hidden (HZ.out.below hb2); have HGO := hidden hgood; have HDA := hidden (cell_below hb2 _ _ HW0.out); have d0 := cell_below ((Below.refl _ w2).alloc (Nat.le_refl _) (.cells #[.int .i64 x.t, .slice x.pr.p x.pr.n x.pr.c, .int .i64 x.eg, .slice x.ed.p x.ed.n x.ed.c, .int .i64 x.ik, .slice x.id.p x.id.n x.id.c, .int .i64 x.am, .slice x.ad.p x.ad.n x.ad.c, .int .i64 x.np, .slice x.ns.p x.ns.n x.ns.c, .int .i64 x.nt, .slice x.nd.p x.nd.n x.nd.c, .int .i64 x.dp, .slice x.ds.p x.ds.n x.ds.c, .slice x.se.p x.se.n x.se.c, .slice x.da.p x.da.n x.da.c] 45)) _ _ HDA.out; have HSB := hidden hb2.size; clear hb2 hgood)
    | fail)
  have hsb := HSB.out
  rw [HSZ.out] at hsb
  have hne1 : ¬ w2.heap.size = w.heap.size + 1 := by omega
  have hne2 : ¬ w.heap.size + 1 = w2.heap.size := by omega
  by_cases hE : E = 0
  · subst hE
    have hk3 := PvIn.new w2 { x with t := 37 } 45
    have hz3 := HZA.out.alloc (.cells #[.int .i64 (Pv.mk 37 x.pr x.eg x.ed x.ik x.id x.am x.ad x.np x.ns x.nt x.nd x.dp x.ds x.se x.da).t, .slice (Pv.mk 37 x.pr x.eg x.ed x.ik x.id x.am x.ad x.np x.ns x.nt x.nd x.dp x.ds x.se x.da).pr.p (Pv.mk 37 x.pr x.eg x.ed x.ik x.id x.am x.ad x.np x.ns x.nt x.nd x.dp x.ds x.se x.da).pr.n (Pv.mk 37 x.pr x.eg x.ed x.ik x.id x.am x.ad x.np x.ns x.nt x.nd x.dp x.ds x.se x.da).pr.c, .int .i64 (Pv.mk 37 x.pr x.eg x.ed x.ik x.id x.am x.ad x.np x.ns x.nt x.nd x.dp x.ds x.se x.da).eg, .slice (Pv.mk 37 x.pr x.eg x.ed x.ik x.id x.am x.ad x.np x.ns x.nt x.nd x.dp x.ds x.se x.da).ed.p (Pv.mk 37 x.pr x.eg x.ed x.ik x.id x.am x.ad x.np x.ns x.nt x.nd x.dp x.ds x.se x.da).ed.n (Pv.mk 37 x.pr x.eg x.ed x.ik x.id x.am x.ad x.np x.ns x.nt x.nd x.dp x.ds x.se x.da).ed.c, .int .i64 (Pv.mk 37 x.pr x.eg x.ed x.ik x.id x.am x.ad x.np x.ns x.nt x.nd x.dp x.ds x.se x.da).ik, .slice (Pv.mk 37 x.pr x.eg x.ed x.ik x.id x.am x.ad x.np x.ns x.nt x.nd x.dp x.ds x.se x.da).id.p (Pv.mk 37 x.pr x.eg x.ed x.ik x.id x.am x.ad x.np x.ns x.nt x.nd x.dp x.ds x.se x.da).id.n (Pv.mk 37 x.pr x.eg x.ed x.ik x.id x.am x.ad x.np x.ns x.nt x.nd x.dp x.ds x.se x.da).id.c, .int .i64 (Pv.mk 37 x.pr x.eg x.ed x.ik x.id x.am x.ad x.np x.ns x.nt x.nd x.dp x.ds x.se x.da).am, .slice (Pv.mk 37 x.pr x.eg x.ed x.ik x.id x.am x.ad x.np x.ns x.nt x.nd x.dp x.ds x.se x.da).ad.p (Pv.mk 37 x.pr x.eg x.ed x.ik x.id x.am x.ad x.np x.ns x.nt x.nd x.dp x.ds x.se x.da).ad.n (Pv.mk 37 x.pr x.eg x.ed x.ik x.id x.am x.ad x.np x.ns x.nt x.nd x.dp x.ds x.se x.da).ad.c, .int .i64 (Pv.mk 37 x.pr x.eg x.ed x.ik x.id x.am x.ad x.np x.ns x.nt x.nd x.dp x.ds x.se x.da).np, .slice (Pv.mk 37 x.pr x.eg x.ed x.ik x.id x.am x.ad x.np x.ns x.nt x.nd x.dp x.ds x.se x.da).ns.p (Pv.mk 37 x.pr x.eg x.ed x.ik x.id x.am x.ad x.np x.ns x.nt x.nd x.dp x.ds x.se x.da).ns.n (Pv.mk 37 x.pr x.eg x.ed x.ik x.id x.am x.ad x.np x.ns x.nt x.nd x.dp x.ds x.se x.da).ns.c, .int .i64 (Pv.mk 37 x.pr x.eg x.ed x.ik x.id x.am x.ad x.np x.ns x.nt x.nd x.dp x.ds x.se x.da).nt, .slice (Pv.mk 37 x.pr x.eg x.ed x.ik x.id x.am x.ad x.np x.ns x.nt x.nd x.dp x.ds x.se x.da).nd.p (Pv.mk 37 x.pr x.eg x.ed x.ik x.id x.am x.ad x.np x.ns x.nt x.nd x.dp x.ds x.se x.da).nd.n (Pv.mk 37 x.pr x.eg x.ed x.ik x.id x.am x.ad x.np x.ns x.nt x.nd x.dp x.ds x.se x.da).nd.c, .int .i64 (Pv.mk 37 x.pr x.eg x.ed x.ik x.id x.am x.ad x.np x.ns x.nt x.nd x.dp x.ds x.se x.da).dp, .slice (Pv.mk 37 x.pr x.eg x.ed x.ik x.id x.am x.ad x.np x.ns x.nt x.nd x.dp x.ds x.se x.da).ds.p (Pv.mk 37 x.pr x.eg x.ed x.ik x.id x.am x.ad x.np x.ns x.nt x.nd x.dp x.ds x.se x.da).ds.n (Pv.mk 37 x.pr x.eg x.ed x.ik x.id x.am x.ad x.np x.ns x.nt x.nd x.dp x.ds x.se x.da).ds.c, .slice (Pv.mk 37 x.pr x.eg x.ed x.ik x.id x.am x.ad x.np x.ns x.nt x.nd x.dp x.ds x.se x.da).se.p (Pv.mk 37 x.pr x.eg x.ed x.ik x.id x.am x.ad x.np x.ns x.nt x.nd x.dp x.ds x.se x.da).se.n (Pv.mk 37 x.pr x.eg x.ed x.ik x.id x.am x.ad x.np x.ns x.nt x.nd x.dp x.ds x.se x.da).se.c, .slice (Pv.mk 37 x.pr x.eg x.ed x.ik x.id x.am x.ad x.np x.ns x.nt x.nd x.dp x.ds x.se x.da).da.p (Pv.mk 37 x.pr x.eg x.ed x.ik x.id x.am x.ad x.np x.ns x.nt x.nd x.dp x.ds x.se x.da).da.n (Pv.mk 37 x.pr x.eg x.ed x.ik x.id x.am x.ad x.np x.ns x.nt x.nd x.dp x.ds x.se x.da).da.c] 45)
    have hb3 := HBA.out.alloc HBA.out.size (.cells #[.int .i64 (Pv.mk 37 x.pr x.eg x.ed x.ik x.id x.am x.ad x.np x.ns x.nt x.nd x.dp x.ds x.se x.da).t, .slice (Pv.mk 37 x.pr x.eg x.ed x.ik x.id x.am x.ad x.np x.ns x.nt x.nd x.dp x.ds x.se x.da).pr.p (Pv.mk 37 x.pr x.eg x.ed x.ik x.id x.am x.ad x.np x.ns x.nt x.nd x.dp x.ds x.se x.da).pr.n (Pv.mk 37 x.pr x.eg x.ed x.ik x.id x.am x.ad x.np x.ns x.nt x.nd x.dp x.ds x.se x.da).pr.c, .int .i64 (Pv.mk 37 x.pr x.eg x.ed x.ik x.id x.am x.ad x.np x.ns x.nt x.nd x.dp x.ds x.se x.da).eg, .slice (Pv.mk 37 x.pr x.eg x.ed x.ik x.id x.am x.ad x.np x.ns x.nt x.nd x.dp x.ds x.se x.da).ed.p (Pv.mk 37 x.pr x.eg x.ed x.ik x.id x.am x.ad x.np x.ns x.nt x.nd x.dp x.ds x.se x.da).ed.n (Pv.mk 37 x.pr x.eg x.ed x.ik x.id x.am x.ad x.np x.ns x.nt x.nd x.dp x.ds x.se x.da).ed.c, .int .i64 (Pv.mk 37 x.pr x.eg x.ed x.ik x.id x.am x.ad x.np x.ns x.nt x.nd x.dp x.ds x.se x.da).ik, .slice (Pv.mk 37 x.pr x.eg x.ed x.ik x.id x.am x.ad x.np x.ns x.nt x.nd x.dp x.ds x.se x.da).id.p (Pv.mk 37 x.pr x.eg x.ed x.ik x.id x.am x.ad x.np x.ns x.nt x.nd x.dp x.ds x.se x.da).id.n (Pv.mk 37 x.pr x.eg x.ed x.ik x.id x.am x.ad x.np x.ns x.nt x.nd x.dp x.ds x.se x.da).id.c, .int .i64 (Pv.mk 37 x.pr x.eg x.ed x.ik x.id x.am x.ad x.np x.ns x.nt x.nd x.dp x.ds x.se x.da).am, .slice (Pv.mk 37 x.pr x.eg x.ed x.ik x.id x.am x.ad x.np x.ns x.nt x.nd x.dp x.ds x.se x.da).ad.p (Pv.mk 37 x.pr x.eg x.ed x.ik x.id x.am x.ad x.np x.ns x.nt x.nd x.dp x.ds x.se x.da).ad.n (Pv.mk 37 x.pr x.eg x.ed x.ik x.id x.am x.ad x.np x.ns x.nt x.nd x.dp x.ds x.se x.da).ad.c, .int .i64 (Pv.mk 37 x.pr x.eg x.ed x.ik x.id x.am x.ad x.np x.ns x.nt x.nd x.dp x.ds x.se x.da).np, .slice (Pv.mk 37 x.pr x.eg x.ed x.ik x.id x.am x.ad x.np x.ns x.nt x.nd x.dp x.ds x.se x.da).ns.p (Pv.mk 37 x.pr x.eg x.ed x.ik x.id x.am x.ad x.np x.ns x.nt x.nd x.dp x.ds x.se x.da).ns.n (Pv.mk 37 x.pr x.eg x.ed x.ik x.id x.am x.ad x.np x.ns x.nt x.nd x.dp x.ds x.se x.da).ns.c, .int .i64 (Pv.mk 37 x.pr x.eg x.ed x.ik x.id x.am x.ad x.np x.ns x.nt x.nd x.dp x.ds x.se x.da).nt, .slice (Pv.mk 37 x.pr x.eg x.ed x.ik x.id x.am x.ad x.np x.ns x.nt x.nd x.dp x.ds x.se x.da).nd.p (Pv.mk 37 x.pr x.eg x.ed x.ik x.id x.am x.ad x.np x.ns x.nt x.nd x.dp x.ds x.se x.da).nd.n (Pv.mk 37 x.pr x.eg x.ed x.ik x.id x.am x.ad x.np x.ns x.nt x.nd x.dp x.ds x.se x.da).nd.c, .int .i64 (Pv.mk 37 x.pr x.eg x.ed x.ik x.id x.am x.ad x.np x.ns x.nt x.nd x.dp x.ds x.se x.da).dp, .slice (Pv.mk 37 x.pr x.eg x.ed x.ik x.id x.am x.ad x.np x.ns x.nt x.nd x.dp x.ds x.se x.da).ds.p (Pv.mk 37 x.pr x.eg x.ed x.ik x.id x.am x.ad x.np x.ns x.nt x.nd x.dp x.ds x.se x.da).ds.n (Pv.mk 37 x.pr x.eg x.ed x.ik x.id x.am x.ad x.np x.ns x.nt x.nd x.dp x.ds x.se x.da).ds.c, .slice (Pv.mk 37 x.pr x.eg x.ed x.ik x.id x.am x.ad x.np x.ns x.nt x.nd x.dp x.ds x.se x.da).se.p (Pv.mk 37 x.pr x.eg x.ed x.ik x.id x.am x.ad x.np x.ns x.nt x.nd x.dp x.ds x.se x.da).se.n (Pv.mk 37 x.pr x.eg x.ed x.ik x.id x.am x.ad x.np x.ns x.nt x.nd x.dp x.ds x.se x.da).se.c, .slice (Pv.mk 37 x.pr x.eg x.ed x.ik x.id x.am x.ad x.np x.ns x.nt x.nd x.dp x.ds x.se x.da).da.p (Pv.mk 37 x.pr x.eg x.ed x.ik x.id x.am x.ad x.np x.ns x.nt x.nd x.dp x.ds x.se x.da).da.n (Pv.mk 37 x.pr x.eg x.ed x.ik x.id x.am x.ad x.np x.ns x.nt x.nd x.dp x.ds x.se x.da).da.c] 45)
    have hg3 := G.keep (HGO.out rfl) (fun a v ha hc => cell_below ((Below.refl _ w2).alloc (Nat.le_refl _) (.cells #[.int .i64 (Pv.mk 37 x.pr x.eg x.ed x.ik x.id x.am x.ad x.np x.ns x.nt x.nd x.dp x.ds x.se x.da).t, .slice (Pv.mk 37 x.pr x.eg x.ed x.ik x.id x.am x.ad x.np x.ns x.nt x.nd x.dp x.ds x.se x.da).pr.p (Pv.mk 37 x.pr x.eg x.ed x.ik x.id x.am x.ad x.np x.ns x.nt x.nd x.dp x.ds x.se x.da).pr.n (Pv.mk 37 x.pr x.eg x.ed x.ik x.id x.am x.ad x.np x.ns x.nt x.nd x.dp x.ds x.se x.da).pr.c, .int .i64 (Pv.mk 37 x.pr x.eg x.ed x.ik x.id x.am x.ad x.np x.ns x.nt x.nd x.dp x.ds x.se x.da).eg, .slice (Pv.mk 37 x.pr x.eg x.ed x.ik x.id x.am x.ad x.np x.ns x.nt x.nd x.dp x.ds x.se x.da).ed.p (Pv.mk 37 x.pr x.eg x.ed x.ik x.id x.am x.ad x.np x.ns x.nt x.nd x.dp x.ds x.se x.da).ed.n (Pv.mk 37 x.pr x.eg x.ed x.ik x.id x.am x.ad x.np x.ns x.nt x.nd x.dp x.ds x.se x.da).ed.c, .int .i64 (Pv.mk 37 x.pr x.eg x.ed x.ik x.id x.am x.ad x.np x.ns x.nt x.nd x.dp x.ds x.se x.da).ik, .slice (Pv.mk 37 x.pr x.eg x.ed x.ik x.id x.am x.ad x.np x.ns x.nt x.nd x.dp x.ds x.se x.da).id.p (Pv.mk 37 x.pr x.eg x.ed x.ik x.id x.am x.ad x.np x.ns x.nt x.nd x.dp x.ds x.se x.da).id.n (Pv.mk 37 x.pr x.eg x.ed x.ik x.id x.am x.ad x.np x.ns x.nt x.nd x.dp x.ds x.se x.da).id.c, .int .i64 (Pv.mk 37 x.pr x.eg x.ed x.ik x.id x.am x.ad x.np x.ns x.nt x.nd x.dp x.ds x.se x.da).am, .slice (Pv.mk 37 x.pr x.eg x.ed x.ik x.id x.am x.ad x.np x.ns x.nt x.nd x.dp x.ds x.se x.da).ad.p (Pv.mk 37 x.pr x.eg x.ed x.ik x.id x.am x.ad x.np x.ns x.nt x.nd x.dp x.ds x.se x.da).ad.n (Pv.mk 37 x.pr x.eg x.ed x.ik x.id x.am x.ad x.np x.ns x.nt x.nd x.dp x.ds x.se x.da).ad.c, .int .i64 (Pv.mk 37 x.pr x.eg x.ed x.ik x.id x.am x.ad x.np x.ns x.nt x.nd x.dp x.ds x.se x.da).np, .slice (Pv.mk 37 x.pr x.eg x.ed x.ik x.id x.am x.ad x.np x.ns x.nt x.nd x.dp x.ds x.se x.da).ns.p (Pv.mk 37 x.pr x.eg x.ed x.ik x.id x.am x.ad x.np x.ns x.nt x.nd x.dp x.ds x.se x.da).ns.n (Pv.mk 37 x.pr x.eg x.ed x.ik x.id x.am x.ad x.np x.ns x.nt x.nd x.dp x.ds x.se x.da).ns.c, .int .i64 (Pv.mk 37 x.pr x.eg x.ed x.ik x.id x.am x.ad x.np x.ns x.nt x.nd x.dp x.ds x.se x.da).nt, .slice (Pv.mk 37 x.pr x.eg x.ed x.ik x.id x.am x.ad x.np x.ns x.nt x.nd x.dp x.ds x.se x.da).nd.p (Pv.mk 37 x.pr x.eg x.ed x.ik x.id x.am x.ad x.np x.ns x.nt x.nd x.dp x.ds x.se x.da).nd.n (Pv.mk 37 x.pr x.eg x.ed x.ik x.id x.am x.ad x.np x.ns x.nt x.nd x.dp x.ds x.se x.da).nd.c, .int .i64 (Pv.mk 37 x.pr x.eg x.ed x.ik x.id x.am x.ad x.np x.ns x.nt x.nd x.dp x.ds x.se x.da).dp, .slice (Pv.mk 37 x.pr x.eg x.ed x.ik x.id x.am x.ad x.np x.ns x.nt x.nd x.dp x.ds x.se x.da).ds.p (Pv.mk 37 x.pr x.eg x.ed x.ik x.id x.am x.ad x.np x.ns x.nt x.nd x.dp x.ds x.se x.da).ds.n (Pv.mk 37 x.pr x.eg x.ed x.ik x.id x.am x.ad x.np x.ns x.nt x.nd x.dp x.ds x.se x.da).ds.c, .slice (Pv.mk 37 x.pr x.eg x.ed x.ik x.id x.am x.ad x.np x.ns x.nt x.nd x.dp x.ds x.se x.da).se.p (Pv.mk 37 x.pr x.eg x.ed x.ik x.id x.am x.ad x.np x.ns x.nt x.nd x.dp x.ds x.se x.da).se.n (Pv.mk 37 x.pr x.eg x.ed x.ik x.id x.am x.ad x.np x.ns x.nt x.nd x.dp x.ds x.se x.da).se.c, .slice (Pv.mk 37 x.pr x.eg x.ed x.ik x.id x.am x.ad x.np x.ns x.nt x.nd x.dp x.ds x.se x.da).da.p (Pv.mk 37 x.pr x.eg x.ed x.ik x.id x.am x.ad x.np x.ns x.nt x.nd x.dp x.ds x.se x.da).da.n (Pv.mk 37 x.pr x.eg x.ed x.ik x.id x.am x.ad x.np x.ns x.nt x.nd x.dp x.ds x.se x.da).da.c] 45)) _ _ hc)
    simp only at hk3 hz3 hb3 hg3
    have HK3 := hidden hk3
    have HZ3 := hidden hz3
    have HB3 := hidden hb3
    have HG3 := hidden hg3
    clear hk3 hz3 hb3 hg3 HGO HZA HBA
    go_upto_region 6 with fail
    clear d0
    generalize hw3 : w2.alloc (.cells #[.int .i64 37, .slice x.pr.p x.pr.n x.pr.c, .int .i64 x.eg, .slice x.ed.p x.ed.n x.ed.c, .int .i64 x.ik, .slice x.id.p x.id.n x.id.c, .int .i64 x.am, .slice x.ad.p x.ad.n x.ad.c, .int .i64 x.np, .slice x.ns.p x.ns.n x.ns.c, .int .i64 x.nt, .slice x.nd.p x.nd.n x.nd.c, .int .i64 x.dp, .slice x.ds.p x.ds.n x.ds.c, .slice x.se.p x.se.n x.se.c, .slice x.da.p x.da.n x.da.c] 45) = w3 at *
    generalize w2.heap.size = g5 at *
    clear hw3
    obtain ⟨k0, k1, k2, k3, k4, k5, k6, k7, k8, k9, k10, k11, k12, k13, k14, k15, kfr⟩ := HK3.out
    obtain ⟨y0, y1, y2, y3, y4, y5, y6, y7, y8, y9, y10, y11, y12, y13, y14, y15, z0, z1, z2, z3, z4, z5, z6, z7, z8, z9, z10, z11, z12, z13, z14, z15, zf⟩ := HZ3.out.any
    have hz := stored_pv HZ3.out HB3.out (by omega) { x with t := 37 }
    have hgd := (G.ty 37 (G.keep HG3.out (fun a v ha hc => (setPv_grown w3 (w.heap.size + 1) { x with t := 37 }).cell hc (by rw [HSZ.out] at ha; simp; omega))))
    simp only [setPv] at hz hgd
    have HZZ := hidden hz
    have HGG := hidden (G.mono hgd (by rw [HSZ.out]; omega : w.heap.size ≤ _))
    clear hz hgd
    go_wp2
    exact ret_pv (g := w.heap.size + 1) rfl rfl rfl rfl HZZ.out.1 ⟨_, rfl, HZZ.out.2, Or.inl ⟨rfl, rfl, HGG.out⟩⟩
  · have hE' : (E != 0) = true := by simpa using hE
    have HE := hidden hE
    clear hE HGO
    have HZ2 := hidden (HZA.out.alloc (.cells #[.int .i64 x.t, .slice x.pr.p x.pr.n x.pr.c, .int .i64 x.eg, .slice x.ed.p x.ed.n x.ed.c, .int .i64 x.ik, .slice x.id.p x.id.n x.id.c, .int .i64 x.am, .slice x.ad.p x.ad.n x.ad.c, .int .i64 x.np, .slice x.ns.p x.ns.n x.ns.c, .int .i64 x.nt, .slice x.nd.p x.nd.n x.nd.c, .int .i64 x.dp, .slice x.ds.p x.ds.n x.ds.c, .slice x.se.p x.se.n x.se.c, .slice x.da.p x.da.n x.da.c] 45))
    have HB2 := hidden (HBA.out.alloc HBA.out.size (.cells #[.int .i64 x.t, .slice x.pr.p x.pr.n x.pr.c, .int .i64 x.eg, .slice x.ed.p x.ed.n x.ed.c, .int .i64 x.ik, .slice x.id.p x.id.n x.id.c, .int .i64 x.am, .slice x.ad.p x.ad.n x.ad.c, .int .i64 x.np, .slice x.ns.p x.ns.n x.ns.c, .int .i64 x.nt, .slice x.nd.p x.nd.n x.nd.c, .int .i64 x.dp, .slice x.ds.p x.ds.n x.ds.c, .slice x.se.p x.se.n x.se.c, .slice x.da.p x.da.n x.da.c] 45))
    clear HZA HBA
    generalize hw3 : w2.alloc (.cells #[.int .i64 x.t, .slice x.pr.p x.pr.n x.pr.c, .int .i64 x.eg, .slice x.ed.p x.ed.n x.ed.c, .int .i64 x.ik, .slice x.id.p x.id.n x.id.c, .int .i64 x.am, .slice x.ad.p x.ad.n x.ad.c, .int .i64 x.np, .slice x.ns.p x.ns.n x.ns.c, .int .i64 x.nt, .slice x.nd.p x.nd.n x.nd.c, .int .i64 x.dp, .slice x.ds.p x.ds.n x.ds.c, .slice x.se.p x.se.n x.se.c, .slice x.da.p x.da.n x.da.c] 45) = w3 at *
    obtain ⟨y0, y1, y2, y3, y4, y5, y6, y7, y8, y9, y10, y11, y12, y13, y14, y15, z0, z1, z2, z3, z4, z5, z6, z7, z8, z9, z10, z11, z12, z13, z14, z15, zf⟩ := HZ2.out.any
    have hz := stored_pv HZ2.out HB2.out (by omega) zeroP
    simp only [setPv, zeroP, nilV] at hz
    have HZZ := hidden hz
    clear hz hw3
    go_wp2
    exact ret_pv (g := w.heap.size + 1) rfl rfl rfl rfl HZZ.out.1 ⟨zeroP, rfl, HZZ.out.2, Or.inr ⟨HE.out, rfl⟩⟩
end Go.Proofs.YtbpmanbpmlkmnaaGreatDoor

namespace Go.Proofs.YtbpmanbpmlkmnaaGreatDoor
open Go.RowKit
set_option linter.unusedVariables false

theorem reader_39 (p : Option Addr) (n c : Nat) (w : World) :
    Calls Tryz.prog 19 #[.slice p n c, .int .i64 39] w fun e w' => e = .returned (.func (.func 44) #[.slice p n c] #[]) ∧ w = w' := by
  go_enter Tryz.func19, Tryz.ntmps19
  go_wp2
  go_ret
  exact ⟨rfl, rfl⟩

set_option maxHeartbeats 1600000 in
set_option maxRecDepth 100000 in
theorem pparse_39 (p : Option Addr) (n c : Nat) (xs : List Int) (cr : Bool) (E : Int) (G : Gd) (w : World) (h : Byt w p n c xs) (HRD : ∀ w, Byt w p n c xs → Calls Tryz.prog 44 #[.slice p n c] w (ReadPv w E (fun w' x => G.ok w.heap.size w' x))) :
    Calls Tryz.prog 10 #[.agg #[.int .i64 39, .bool cr, .slice p n c]] w (ParsedV w 39 E G) := by
  have HX := hidden ((h.alloc (.cells #[.int .i64 39, .bool cr, .slice p n c] 27)).alloc (.cells #[.int .i64 0, .slice none 0 0, .int .i64 0, .slice none 0 0, .int .i64 0, .slice none 0 0, .int .i64 0, .slice none 0 0, .int .i64 0, .slice none 0 0, .int .i64 0, .slice none 0 0, .int .i64 0, .slice none 0 0, .slice none 0 0, .slice none 0 0] 45))
  have HB := hidden (((Below.refl w.heap.size w).alloc (Nat.le_refl _) (.cells #[.int .i64 39, .bool cr, .slice p n c] 27)).alloc (by simp) (.cells #[.int .i64 0, .slice none 0 0, .int .i64 0, .slice none 0 0, .int .i64 0, .slice none 0 0, .int .i64 0, .slice none 0 0, .int .i64 0, .slice none 0 0, .int .i64 0, .slice none 0 0, .int .i64 0, .slice none 0 0, .slice none 0 0, .slice none 0 0] 45))
  have HZ : Hid (PvIn ((w.alloc (.cells #[.int .i64 39, .bool cr, .slice p n c] 27)).alloc (.cells #[.int .i64 0, .slice none 0 0, .int .i64 0, .slice none 0 0, .int .i64 0, .slice none 0 0, .int .i64 0, .slice none 0 0, .int .i64 0, .slice none 0 0, .int .i64 0, .slice none 0 0, .int .i64 0, .slice none 0 0, .slice none 0 0, .slice none 0 0] 45)) (w.heap.size + 1) zeroP) := hidden (by
    have := PvIn.new (w.alloc (.cells #[.int .i64 39, .bool cr, .slice p n c] 27)) zeroP 45
    simpa [zeroP, nilV] using this)
  have HW0 := hidden (show ((w.alloc (.cells #[.int .i64 39, .bool cr, .slice p n c] 27)).alloc (.cells #[.int .i64 0, .slice none 0 0, .int .i64 0, .slice none 0 0, .int .i64 0, .slice none 0 0, .int .i64 0, .slice none 0 0, .int .i64 0, .slice none 0 0, .int .i64 0, .slice none 0 0, .int .i64 0, .slice none 0 0, .slice none 0 0, .slice none 0 0] 45)).cell? ⟨w.heap.size, 0, none⟩ = some (.int .i64 39) by go_simp)
  have HSZ := hidden (show ((w.alloc (.cells #[.int .i64 39, .bool cr, .slice p n c] 27)).alloc (.cells #[.int .i64 0, .slice none 0 0, .int .i64 0, .slice none 0 0, .int .i64 0, .slice none 0 0, .int .i64 0, .slice none 0 0, .int .i64 0, .slice none 0 0, .int .i64 0, .slice none 0 0, .int .i64 0, .slice none 0 0, .slice none 0 0, .slice none 0 0] 45)).heap.size = w.heap.size + 1 + 1 by simp)
  have HR := hidden HRD
  clear h HRD
  go_enter Tryz.func10, Tryz.ntmps10
  go_upto_region 3 with (first
    | (go_at_call 19; (with_reducible refine (reader_39 _ _ _ _).mono ?_); rintro e w' ⟨rfl, rfl⟩)
    | (go_at_call 44; (with_reducible refine (HR.out _ HX.out).mono ?_); rintro e w2 ⟨x, rfl, hb2, hgood⟩; have HBA := hidden (HB.out.trans (hb2.mono HB.out.size)); have HZA := hidden (HZ.out.below hb2); have HGO := hidden hgood; have HDA := hidden (cell_below hb2 _ _ HW0.out); have d0 := cell_below ((Below.refl _ w2).alloc (Nat.le_refl _) (.cells #[.int .i64 x.t, .slice x.pr.p x.pr.n x.pr.c, .int .i64 x.eg, .slice x.ed.p x.ed.n x.ed.c, .int .i64 x.ik, .slice x.id.p x.id.n x.id.c, .int .i64 x.am, .slice x.ad.p x.ad.n x.ad.c, .int .i64 x.np, .slice x.ns.p x.ns.n x.ns.c, .int .i64 x.nt, .slice x.nd.p x.nd.n x.nd.c, .int .i64 x.dp, .slice x.ds.p x.ds.n x.ds.c, .slice x.se.p x.se.n x.se.c, .slice x.da.p x.da.n x.da.c] 45)) _ _ HDA.out; have HSB := hidden hb2.size; clear hb2 hgood)
    | fail)
  have hsb := HSB.out
  rw [HSZ.out] at hsb
  have hne1 : ¬ w2.heap.size = w.heap.size + 1 := by omega
  have hne2 : ¬ w.heap.size + 1 = w2.heap.size := by omega
  by_cases hE : E = 0
  · subst hE
    have hk3 := PvIn.new w2 { x with t := 39 } 45
    have hz3 := HZA.out.alloc (.cells #[.int .i64 (Pv.mk 39 x.pr x.eg x.ed x.ik x.id x.am x.ad x.np x.ns x.nt x.nd x.dp x.ds x.se x.da).t, .slice (Pv.mk 39 x.pr x.eg x.ed x.ik x.id x.am x.ad x.np x.ns x.nt x.nd x.dp x.ds x.se x.da).pr.p (Pv.mk 39 x.pr x.eg x.ed x.ik x.id x.am x.ad x.np x.ns x.nt x.nd x.dp x.ds x.se x.da).pr.n (Pv.mk 39 x.pr x.eg x.ed x.ik x.id x.am x.ad x.np x.ns x.nt x.nd x.dp x.ds x.se x.da).pr.c, .int .i64 (Pv.mk 39 x.pr x.eg x.ed x.ik x.id x.am x.ad x.np x.ns x.nt x.nd x.dp x.ds x.se x.da).eg, .slice (Pv.mk 39 x.pr x.eg x.ed x.ik x.id x.am x.ad x.np x.ns x.nt x.nd x.dp x.ds x.se x.da).ed.p (Pv.mk 39 x.pr x.eg x.ed x.ik x.id x.am x.ad x.np x.ns x.nt x.nd x.dp x.ds x.se x.da).ed.n (Pv.mk 39 x.pr x.eg x.ed x.ik x.id x.am x.ad x.np x.ns x.nt x.nd x.dp x.ds x.se x.da).ed.c, .int .i64 (Pv.mk 39 x.pr x.eg x.ed x.ik x.id x.am x.ad x.np x.ns x.nt x.nd x.dp x.ds x.se x.da).ik, .slice (Pv.mk 39 x.pr x.eg x.ed x.ik x.id x.am x.ad x.np x.ns x.nt x.nd x.dp x.ds x.se x.da).id.p (Pv.mk 39 x.pr x.eg x.ed x.ik x.id x.am x.ad x.np x.ns x.nt x.nd x.dp x.ds x.se x.da).id.n (Pv.mk 39 x.pr x.eg x.ed x.ik x.id x.am x.ad x.np x.ns x.nt x.nd x.dp x.ds x.se x.da).id.c, .int .i64 (Pv.mk 39 x.pr x.eg x.ed x.ik x.id x.am x.ad x.np x.ns x.nt x.nd x.dp x.ds x.se x.da).am, .slice (Pv.mk 39 x.pr x.eg x.ed x.ik x.id x.am x.ad x.np x.ns x.nt x.nd x.dp x.ds x.se x.da).ad.p (Pv.mk 39 x.pr x.eg x.ed x.ik x.id x.am x.ad x.np x.ns x.nt x.nd x.dp x.ds x.se x.da).ad.n (Pv.mk 39 x.pr x.eg x.ed x.ik x.id x.am x.ad x.np x.ns x.nt x.nd x.dp x.ds x.se x.da).ad.c, .int .i64 (Pv.mk 39 x.pr x.eg x.ed x.ik x.id x.am x.ad x.np x.ns x.nt x.nd x.dp x.ds x.se x.da).np, .slice (Pv.mk 39 x.pr x.eg x.ed x.ik x.id x.am x.ad x.np x.ns x.nt x.nd x.dp x.ds x.se x.da).ns.p (Pv.mk 39 x.pr x.eg x.ed x.ik x.id x.am x.ad x.np x.ns x.nt x.nd x.dp x.ds x.se x.da).ns.n (Pv.mk 39 x.pr x.eg x.ed x.ik x.id x.am x.ad x.np x.ns x.nt x.nd x.dp x.ds x.se x.da).ns.c, .int .i64 (Pv.mk 39 x.pr x.eg x.ed x.ik x.id x.am x.ad x.np x.ns x.nt x.nd x.dp x.ds x.se x.da).nt, .slice (Pv.mk 39 x.pr x.eg x.ed x.ik x.id x.am x.ad x.np x.ns x.nt x.nd x.dp x.ds x.se x.da).nd.p (Pv.mk 39 x.pr x.eg x.ed x.ik x.id x.am x.ad x.np x.ns x.nt x.nd x.dp x.ds x.se x.da).nd.n (Pv.mk 39 x.pr x.eg x.ed x.ik x.id x.am x.ad x.np x.ns x.nt x.nd x.dp x.ds x.se x.da).nd.c, .int .i64 (Pv.mk 39 x.pr x.eg x.ed x.ik x.id x.am x.ad x.np x.ns x.nt x.nd x.dp x.ds x.se x.da).dp, .slice (Pv.mk 39 x.pr x.eg x.ed x.ik x.id x.am x.ad x.np x.ns x.nt x.nd x.dp x.ds x.se x.da).ds.p (Pv.mk 39 x.pr x.eg x.ed x.ik x.id x.am x.ad x.np x.ns x.nt x.nd x.dp x.ds x.se x.da).ds.n (Pv.mk 39 x.pr x.eg x.ed x.ik x.id x.am x.ad x.np x.ns x.nt x.nd x.dp x.ds x.se x.da).ds.c, .slice (Pv.mk 39 x.pr x.eg x.ed x.ik x.id x.am x.ad x.np x.ns x.nt x.nd x.dp x.ds x.se x.da).se.p (Pv.mk 39 x.pr x.eg x.ed x.ik x.id x.am x.ad x.np x.ns x.nt x.nd x.dp x.ds x.se x.da).se.n (Pv.mk 39 x.pr x.eg x.ed x.ik x.id x.am x.ad x.np x.ns x.nt x.nd x.dp x.ds x.se x.da).se.c, .slice (Pv.mk 39 x.pr x.eg x.ed x.ik x.id x.am x.ad x.np x.ns x.nt x.nd x.dp x.ds x.se x.da).da.p (Pv.mk 39 x.pr x.eg x.ed x.ik x.id x.am x.ad x.np x.ns x.nt x.nd x.dp x.ds x.se x.da).da.n (Pv.mk 39 x.pr x.eg x.ed x.ik x.id x.am x.ad x.np x.ns x.nt x.nd x.dp x.ds x.se x.da).da.c] 45)
    have hb3 := HBA.out.alloc HBA.out.size (.cells #[.int .i64 (Pv.mk 39 x.pr x.eg x.ed x.ik x.id x.am x.ad x.np x.ns x.nt x.nd x.dp x.ds x.se x.da).t, .slice (Pv.mk 39 x.pr x.eg x.ed x.ik x.id x.am x.ad x.np x.ns x.nt x.nd x.dp x.ds x.se x.da).pr.p (Pv.mk 39 x.pr x.eg x.ed x.ik x.id x.am x.ad x.np x.ns x.nt x.nd x.dp x.ds x.se x.da).pr.n (Pv.mk 39 x.pr x.eg x.ed x.ik x.id x.am x.ad x.np x.ns x.nt x.nd x.dp x.ds x.se x.da).pr.c, .int .i64 (Pv.mk 39 x.pr x.eg x.ed x.ik x.id x.am x.ad x.np x.ns x.nt x.nd x.dp x.ds x.se x.da).eg, .slice (Pv.mk 39 x.pr x.eg x.ed x.ik x.id x.am x.ad x.np x.ns x.nt x.nd x.dp x.ds x.se x.da).ed.p (Pv.mk 39 x.pr x.eg x.ed x.ik x.id x.am x.ad x.np x.ns x.nt x.nd x.dp x.ds x.se x.da).ed.n (Pv.mk 39 x.pr x.eg x.ed x.ik x.id x.am x.ad x.np x.ns x.nt x.nd x.dp x.ds x.se x.da).ed.c, .int .i64 (Pv.mk 39 x.pr x.eg x.ed x.ik x.id x.am x.ad x.np x.ns x.nt x.nd x.dp x.ds x.se x.da).ik, .slice (Pv.mk 39 x.pr x.eg x.ed x.ik x.id x.am x.ad x.np x.ns x.nt x.nd x.dp x.ds x.se x.da).id.p (Pv.mk 39 x.pr x.eg x.ed x.ik x.id x.am x.ad x.np x.ns x.nt x.nd x.dp x.ds x.se x.da).id.n (Pv.mk 39 x.pr x.eg x.ed x.ik x.id x.am x.ad x.np x.ns x.nt x.nd x.dp x.ds x.se x.da).id.c, .int .i64 (Pv.mk 39 x.pr x.eg x.ed x.ik x.id x.am x.ad x.np x.ns x.nt x.nd x.dp x.ds x.se x.da).am, .slice (Pv.mk 39 x.pr x.eg x.ed x.ik x.id x.am x.ad x.np x.ns x.nt x.nd x.dp x.ds x.se x.da).ad.p (Pv.mk 39 x.pr x.eg x.ed x.ik x.id x.am x.ad x.np x.ns x.nt x.nd x.dp x.ds x.se x.da).ad.n (Pv.mk 39 x.pr x.eg x.ed x.ik x.id x.am x.ad x.np x.ns x.nt x.nd x.dp x.ds x.se x.da).ad.c, .int .i64 (Pv.mk 39 x.pr x.eg x.ed x.ik x.id x.am x.ad x.np x.ns x.nt x.nd x.dp x.ds x.se x.da).np, .slice (Pv.mk 39 x.pr x.eg x.ed x.ik x.id x.am x.ad x.np x.ns x.nt x.nd x.dp x.ds x.se x.da).ns.p (Pv.mk 39 x.pr x.eg x.ed x.ik x.id x.am x.ad x.np x.ns x.nt x.nd x.dp x.ds x.se x.da).ns.n (Pv.mk 39 x.pr x.eg x.ed x.ik x.id x.am x.ad x.np x.ns x.nt x.nd x.dp x.ds x.se x.da).ns.c, .int .i64 (Pv.mk 39 x.pr x.eg x.ed x.ik x.id x.am x.ad x.np x.ns x.nt x.nd x.dp x.ds x.se x.da).nt, .slice (Pv.mk 39 x.pr x.eg x.ed x.ik x.id x.am x.ad x.np x.ns x.nt x.nd x.dp x.ds x.se x.da).nd.p (Pv.mk 39 x.pr x.eg x.ed x.ik x.id x.am x.ad x.np x.ns x.nt x.nd x.dp x.ds x.se x.da).nd.n (Pv.mk 39 x.pr x.eg x.ed x.ik x.id x.am x.ad x.np x.ns x.nt x.nd x.dp x.ds x.se x.da).nd.c, .int .i64 (Pv.mk 39 x.pr x.eg x.ed x.ik x.id x.am x.ad x.np x.ns x.nt x.nd x.dp x.ds x.se x.da).dp, .slice (Pv.mk 39 x.pr x.eg x.ed x.ik x.id x.am x.ad x.np x.ns x.nt x.nd x.dp x.ds x.se x.da).ds.p (Pv.mk 39 x.pr x.eg x.ed x.ik x.id x.am x.ad x.np x.ns x.nt x.nd x.dp x.ds x.se x.da).ds.n (Pv.mk 39 x.pr x.eg x.ed x.ik x.id x.am x.ad x.np x.ns x.nt x.nd x.dp x.ds x.se x.da).ds.c, .slice (Pv.mk 39 x.pr x.eg x.ed x.ik x.id x.am x.ad x.np x.ns x.nt x.nd x.dp x.ds x.se x.da).se.p (Pv.mk 39 x.pr x.eg x.ed x.ik x.id x.am x.ad x.np x.ns x.nt x.nd x.dp x.ds x.se x.da).se.n (Pv.mk 39 x.pr x.eg x.ed x.ik x.id x.am x.ad x.np x.ns x.nt x.nd x.dp x.ds x.se x.da).se.c, .slice (Pv.mk 39 x.pr x.eg x.ed x.ik x.id x.am x.ad x.np x.ns x.nt x.nd x.dp x.ds x.se x.da).da.p (Pv.mk 39 x.pr x.eg x.ed x.ik x.id x.am x.ad x.np x.ns x.nt x.nd x.dp x.ds x.se x.da).da.n (Pv.mk 39 x.pr x.eg x.ed x.ik x.id x.am x.ad x.np x.ns x.nt x.nd x.dp x.ds x.se x.da).da.c] 45)
    have hg3 := G.keep (HGO.out rfl) (fun a v ha hc => cell_below ((Below.refl _ w2).alloc (Nat.le_refl _) (.cells #[.int .i64 (Pv.mk 39 x.pr x.eg x.ed x.ik x.id x.am x.ad x.np x.ns x.nt x.nd x.dp x.ds x.se x.da).t, .slice (Pv.mk 39 x.pr x.eg x.ed x.ik x.id x.am x.ad x.np x.ns x.nt x.nd x.dp x.ds x.se x.da).pr.p (Pv.mk 39 x.pr x.eg x.ed x.ik x.id x.am x.ad x.np x.ns x.nt x.nd x.dp x.ds x.se x.da).pr.n (Pv.mk 39 x.pr x.eg x.ed x.ik x.id x.am x.ad x.np x.ns x.nt x.nd x.dp x.ds x.se x.da).pr.c, .int .i64 (Pv.mk 39 x.pr x.eg x.ed x.ik x.id x.am x.ad x.np x.ns x.nt x.nd x.dp x.ds x.se x.da).eg, .slice (Pv.mk 39 x.pr x.eg x.ed x.ik x.id x.am x.ad x.np x.ns x.nt x.nd x.dp x.ds x.se x.da).ed.p (Pv.mk 39 x.pr x.eg x.ed x.ik x.id x.am x.ad x.np x.ns x.nt x.nd x.dp x.ds x.se x.da).ed.n (Pv.mk 39 x.pr x.eg x.ed x.ik x.id x.am x.ad x.np x.ns x.nt x.nd x.dp x.ds x.se x.da).ed.c, .int .i64 (Pv.mk 39 x.pr x.eg x.ed x.ik x.id x.am x.ad x.np x.ns x.nt x.nd x.dp x.ds x.se x.da).ik, .slice (Pv.mk 39 x.pr x.eg x.ed x.ik x.id x.am x.ad x.np x.ns x.nt x.nd x.dp x.ds x.se x.da).id.p (Pv.mk 39 x.pr x.eg x.ed x.ik x.id x.am x.ad x.np x.ns x.nt x.nd x.dp x.ds x.se x.da).id.n (Pv.mk 39 x.pr x.eg x.ed x.ik x.id x.am x.ad x.np x.ns x.nt x.nd x.dp x.ds x.se x.da).id.c, .int .i64 (Pv.mk 39 x.pr x.eg x.ed x.ik x.id x.am x.ad x.np x.ns x.nt x.nd x.dp x.ds x.se x.da).am, .slice (Pv.mk 39 x.pr x.eg x.ed x.ik x.id x.am x.ad x.np x.ns x.nt x.nd x.dp x.ds x.se x.da).ad.p (Pv.mk 39 x.pr x.eg x.ed x.ik x.id x.am x.ad x.np x.ns x.nt x.nd x.dp x.ds x.se x.da).ad.n (Pv.mk 39 x.pr x.eg x.ed x.ik x.id x.am x.ad x.np x.ns x.nt x.nd x.dp x.ds x.se x.da).ad.c, .int .i64 (Pv.mk 39 x.pr x.eg x.ed x.ik x.id x.am x.ad x.np x.ns x.nt x.nd x.dp x.ds x.se x.da).np, .slice (Pv.mk 39 x.pr x.eg x.ed x.ik x.id x.am x.ad x.np x.ns x.nt x.nd x.dp x.ds x.se x.da).ns.p (Pv.mk 39 x.pr x.eg x.ed x.ik x.id x.am x.ad x.np x.ns x.nt x.nd x.dp x.ds x.se x.da).ns.n (Pv.mk 39 x.pr x.eg x.ed x.ik x.id x.am x.ad x.np x.ns x.nt x.nd x.dp x.ds x.se x.da).ns.c, .int .i64 (Pv.mk 39 x.pr x.eg x.ed x.ik x.id x.am x.ad x.np x.ns x.nt x.nd x.dp x.ds x.se x.da).nt, .slice (Pv.mk 39 x.pr x.eg x.ed x.ik x.id x.am x.ad x.np x.ns x.nt x.nd x.dp x.ds x.se x.da).nd.p (Pv.mk 39 x.pr x.eg x.ed x.ik x.id x.am x.ad x.np x.ns x.nt x.nd x.dp x.ds x.se x.da).nd.n (Pv.mk 39 x.pr x.eg x.ed x.ik x.id x.am x.ad x.np x.ns x.nt x.nd x.dp x.ds x.se x.da).nd.c, .int .i64 (Pv.mk 39 x.pr x.eg x.ed x.ik x.id x.am x.ad x.np x.ns x.nt x.nd x.dp x.ds x.se x.da).dp, .slice (Pv.mk 39 x.pr x.eg x.ed x.ik x.id x.am x.ad x.np x.ns x.nt x.nd x.dp x.ds x.se x.da).ds.p (Pv.mk 39 x.pr x.eg x.ed x.ik x.id x.am x.ad x.np x.ns x.nt x.nd x.dp x.ds x.se x.da).ds.n (Pv.mk 39 x.pr x.eg x.ed x.ik x.id x.am x.ad x.np x.ns x.nt x.nd x.dp x.ds x.se x.da).ds.c, .slice (Pv.mk 39 x.pr x.eg x.ed x.ik x.id x.am x.ad x.np x.ns x.nt x.nd x.dp x.ds x.se x.da).se.p (Pv.mk 39 x.pr x.eg x.ed x.ik x.id x.am x.ad x.np x.ns x.nt x.nd x.dp x.ds x.se x.da).se.n (Pv.mk 39 x.pr x.eg x.ed x.ik x.id x.am x.ad x.np x.ns x.nt x.nd x.dp x.ds x.se x.da).se.c, .slice (Pv.mk 39 x.pr x.eg x.ed x.ik x.id x.am x.ad x.np x.ns x.nt x.nd x.dp x.ds x.se x.da).da.p (Pv.mk 39 x.pr x.eg x.ed x.ik x.id x.am x.ad x.np x.ns x.nt x.nd x.dp x.ds x.se x.da).da.n (Pv.mk 39 x.pr x.eg x.ed x.ik x.id x.am x.ad x.np x.ns x.nt x.nd x.dp x.ds x.se x.da).da.c] 45)) _ _ hc)
    simp only at hk3 hz3 hb3 hg3
    have HK3 := hidden hk3
    have HZ3 := hidden hz3
    have HB3 := hidden hb3
    have HG3 := hidden hg3
    clear hk3 hz3 hb3 hg3 HGO HZA HBA
    go_upto_region 6 with fail
    clear d0
    generalize hw3 : w2.alloc (.cells #[.int .i64 39, .slice x.pr.p x.pr.n x.pr.c, .int .i64 x.eg, .slice x.ed.p x.ed.n x.ed.c, .int .i64 x.ik, .slice x.id.p x.id.n x.id.c, .int .i64 x.am, .slice x.ad.p x.ad.n x.ad.c, .int .i64 x.np, .slice x.ns.p x.ns.n x.ns.c, .int .i64 x.nt, .slice x.nd.p x.nd.n x.nd.c, .int .i64 x.dp, .slice x.ds.p x.ds.n x.ds.c, .slice x.se.p x.se.n x.se.c, .slice x.da.p x.da.n x.da.c] 45) = w3 at *
    generalize w2.heap.size = g5 at *
    clear hw3
    obtain ⟨k0, k1, k2, k3, k4, k5, k6, k7, k8, k9, k10, k11, k12, k13, k14, k15, kfr⟩ := HK3.out
    obtain ⟨y0, y1, y2, y3, y4, y5, y6, y7, y8, y9, y10, y11, y12, y13, y14, y15, z0, z1, z2, z3, z4, z5, z6, z7, z8, z9, z10, z11, z12, z13, z14, z15, zf⟩ := HZ3.out.any
    have hz := stored_pv HZ3.out HB3.out (by omega) { x with t := 39 }
    have hgd := (G.ty 39 (G.keep HG3.out (fun a v ha hc => (setPv_grown w3 (w.heap.size + 1) { x with t := 39 }).cell hc (by rw [HSZ.out] at ha; simp; omega))))
    simp only [setPv] at hz hgd
    have HZZ := hidden hz
    have HGG := hidden (G.mono hgd (by rw [HSZ.out]; omega : w.heap.size ≤ _))
    clear hz hgd
    go_wp2
    exact ret_pv (g := w.heap.size + 1) rfl rfl rfl rfl HZZ.out.1 ⟨_, rfl, HZZ.out.2, Or.inl ⟨rfl, rfl, HGG.out⟩⟩
  · have hE' : (E != 0) = true := by simpa using hE
    have HE := hidden hE
    clear hE HGO
    have HZ2 := hidden (HZA.out.alloc (.cells #[.int .i64 x.t, .slice x.pr.p x.pr.n x.pr.c, .int .i64 x.eg, .slice x.ed.p x.ed.n x.ed.c, .int .i64 x.ik, .slice x.id.p x.id.n x.id.c, .int .i64 x.am, .slice x.ad.p x.ad.n x.ad.c, .int .i64 x.np, .slice x.ns.p x.ns.n x.ns.c, .int .i64 x.nt, .slice x.nd.p x.nd.n x.nd.c, .int .i64 x.dp, .slice x.ds.p x.ds.n x.ds.c, .slice x.se.p x.se.n x.se.c, .slice x.da.p x.da.n x.da.c] 45))
    have HB2 := hidden (HBA.out.alloc HBA.out.size (.cells #[.int .i64 x.t, .slice x.pr.p x.pr.n x.pr.c, .int .i64 x.eg, .slice x.ed.p x.ed.n x.ed.c, .int .i64 x.ik, .slice x.id.p x.id.n x.id.c, .int .i64 x.am, .slice x.ad.p x.ad.n x.ad.c, .int .i64 x.np, .slice x.ns.p x.ns.n x.ns.c, .int .i64 x.nt, .slice x.nd.p x.nd.n x.nd.c, .int .i64 x.dp, .slice x.ds.p x.ds.n x.ds.c, .slice x.se.p x.se.n x.se.c, .slice x.da.p x.da.n x.da.c] 45))
    clear HZA HBA
    generalize hw3 : w2.alloc (.cells #[.int .i64 x.t, .slice x.pr.p x.pr.n x.pr.c, .int .i64 x.eg, .slice x.ed.p x.ed.n x.ed.c, .int .i64 x.ik, .slice x.id.p x.id.n x.id.c, .int .i64 x.am, .slice x.ad.p x.ad.n x.ad.c, .int .i64 x.np, .slice x.ns.p x.ns.n x.ns.c, .int .i64 x.nt, .slice x.nd.p x.nd.n x.nd.c, .int .i64 x.dp, .slice x.ds.p x.ds.n x.ds.c, .slice x.se.p x.se.n x.se.c, .slice x.da.p x.da.n x.da.c] 45) = w3 at *
    obtain ⟨y0, y1, y2, y3, y4, y5, y6, y7, y8, y9, y10, y11, y12, y13, y14, y15, z0, z1, z2, z3, z4, z5, z6, z7, z8, z9, z10, z11, z12, z13, z14, z15, zf⟩ := HZ2.out.any
    have hz := stored_pv HZ2.out HB2.out (by omega) zeroP
    simp only [setPv, zeroP, nilV] at hz
    have HZZ := hidden hz
    clear hz hw3
    go_wp2
    exact ret_pv (g := w.heap.size + 1) rfl rfl rfl rfl HZZ.out.1 ⟨zeroP, rfl, HZZ.out.2, Or.inr ⟨HE.out, rfl⟩⟩
end Go.Proofs.YtbpmanbpmlkmnaaGreatDoor

namespace Go.Proofs.YtbpmanbpmlkmnaaGreatDoor
open Go.RowKit
set_option linter.unusedVariables false

theorem reader_40 (p : Option Addr) (n c : Nat) (w : World) :
    Calls Tryz.prog 19 #[.slice p n c, .int .i64 40] w fun e w' => e = .returned (.func (.func 45) #[.slice p n c] #[]) ∧ w = w' := by
  go_enter Tryz.func19, Tryz.ntmps19
  go_wp2
  go_ret
  exact ⟨rfl, rfl⟩

set_option maxHeartbeats 1600000 in
set_option maxRecDepth 100000 in
theorem pparse_40 (p : Option Addr) (n c : Nat) (xs : List Int) (cr : Bool) (E : Int) (G : Gd) (w : World) (h : Byt w p n c xs) (HRD : ∀ w, Byt w p n c xs → Calls Tryz.prog 45 #[.slice p n c] w (ReadPv w E (fun w' x => G.ok w.heap.size w' x))) :
    Calls Tryz.prog 10 #[.agg #[.int .i64 40, .bool cr, .slice p n c]] w (ParsedV w 40 E G) := by
  have HX := hidden ((h.alloc (.cells #[.int .i64 40, .bool cr, .slice p n c] 27)).alloc (.cells #[.int .i64 0, .slice none 0 0, .int .i64 0, .slice none 0 0, .int .i64 0, .slice none 0 0, .int .i64 0, .slice none 0 0, .int .i64 0, .slice none 0 0, .int .i64 0, .slice none 0 0, .int .i64 0, .slice none 0 0, .slice none 0 0, .slice none 0 0] 45))
  have HB := hidden (((Below.refl w.heap.size w).alloc (Nat.le_refl _) (.cells #[.int .i64 40, .bool cr, .slice p n c] 27)).alloc (by simp) (.cells #[.int .i64 0, .slice none 0 0, .int .i64 0, .slice none 0 0, .int .i64 0, .slice none 0 0, .int .i64 0, .slice none 0 0, .int .i64 0, .slice none 0 0, .int .i64 0, .slice none 0 0, .int .i64 0, .slice none 0 0, .slice none 0 0, .slice none 0 0] 45))
  have HZ : Hid (PvIn ((w.alloc (.cells #[.int .i64 40, .bool cr, .slice p n c] 27)).alloc (.cells #[.int .i64 0, .slice none 0 0, .int .i64 0, .slice none 0 0, .int .i64 0, .slice none 0 0, .int .i64 0, .slice none 0 0, .int .i64 0, .slice none 0 0, .int .i64 0, .slice none 0 0, .int .i64 0, .slice none 0 0, .slice none 0 0, .slice none 0 0] 45)) (w.heap.size + 1) zeroP) := hidden (by
    have := PvIn.new (w.alloc (.cells #[.int .i64 40, .bool cr, .slice p n c] 27)) zeroP 45
    simpa [zeroP, nilV] using this)
  have HW0 := hidden (show ((w.alloc (.cells #[.int .i64 40, .bool cr, .slice p n c] 27)).alloc (.cells #[.int .i64 0, .slice none 0 0, .int .i64 0, .slice none 0 0, .int .i64 0, .slice none 0 0, .int .i64 0, .slice none 0 0, .int .i64 0, .slice none 0 0, .int .i64 0, .slice none 0 0, .int .i64 0, .slice none 0 0, .slice none 0 0, .slice none 0 0] 45)).cell? ⟨w.heap.size, 0, none⟩ = some (.int .i64 40) by go_simp)
  have HSZ := hidden (show ((w.alloc (.cells #[.int .i64 40, .bool cr, .slice p n c] 27)).alloc (.cells #[.int .i64 0, .slice none 0 0, .int .i64 0, .slice none 0 0, .int .i64 0, .slice none 0 0, .int .i64 0, .slice none 0 0, .int .i64 0, .slice none 0 0, .int .i64 0, .slice none 0 0, .int .i64 0, .slice none 0 0, .slice none 0 0, .slice none 0 0] 45)).heap.size = w.heap.size + 1 + 1 by simp)
  have HR := hidden HRD
  clear h HRD
  go_enter Tryz.func10, Tryz.ntmps10
  go_upto_region 3 with (first
    | (go_at_call 19; (with_reducible refine (reader_40 _ _ _ _).mono ?_); rintro e w' ⟨rfl, rfl⟩)
    | (go_at_call 45; (with_reducible refine (HR.out _ HX.out).mono ?_); rintro e w2 ⟨x, rfl, hb2, hgood⟩; have HBA := hidden (HB.out.trans (hb2.mono HB.out.size)); have HZA := hidden (HZ.out.below hb2); have HGO := hidden hgood; have HDA := hidden (cell_below hb2 _ _ HW0.out); have d0 := cell_below ((Below.refl _ w2).alloc (Nat.le_refl _) (.cells #[.int .i64 x.t, .slice x.pr.p x.pr.n x.pr.c, .int .i64 x.eg, .slice x.ed.p x.ed.n x.ed.c, .int .i64 x.ik, .slice x.id.p x.id.n x.id.c, .int .i64 x.am, .slice x.ad.p x.ad.n x.ad.c, .int .i64 x.np, .slice x.ns.p x.ns.n x.ns.c, .int .i64 x.nt, .slice x.nd.p x.nd.n x.nd.c, .int .i64 x.dp, .slice x.ds.p x.ds.n x.ds.c, .slice x.se.p x.se.n x.se.c, .slice x.da.p x.da.n x.da.c] 45)) _ _ HDA.out; have HSB := hidden hb2.size; clear hb2 hgood)
    | fail)
  have hsb := HSB.out
  rw [HSZ.out] at hsb
  have hne1 : ¬ w2.heap.size = w.heap.size + 1 := by omega
  have hne2 : ¬ w.heap.size + 1 = w2.heap.size := by omega
  by_cases hE : E = 0
  · subst hE
    have hk3 := PvIn.new w2 { x with t := 40 } 45
    have hz3 := HZA.out.alloc (.cells #[.int .i64 (Pv.mk 40 x.pr x.eg x.ed x.ik x.id x.am x.ad x.np x.ns x.nt x.nd x.dp x.ds x.se x.da).t, .slice (Pv.mk 40 x.pr x.eg x.ed x.ik x.id x.am x.ad x.np x.ns x.nt x.nd x.dp x.ds x.se x.da).pr.p (Pv.mk 40 x.pr x.eg x.ed x.ik x.id x.am x.ad x.np x.ns x.nt x.nd x.dp x.ds x.se x.da).pr.n (Pv.mk 40 x.pr x.eg x.ed x.ik x.id x.am x.ad x.np x.ns x.nt x.nd x.dp x.ds x.se x.da).pr.c, .int .i64 (Pv.mk 40 x.pr x.eg x.ed x.ik x.id x.am x.ad x.np x.ns x.nt x.nd x.dp x.ds x.se x.da).eg, .slice (Pv.mk 40 x.pr x.eg x.ed x.ik x.id x.am x.ad x.np x.ns x.nt x.nd x.dp x.ds x.se x.da).ed.p (Pv.mk 40 x.pr x.eg x.ed x.ik x.id x.am x.ad x.np x.ns x.nt x.nd x.dp x.ds x.se x.da).ed.n (Pv.mk 40 x.pr x.eg x.ed x.ik x.id x.am x.ad x.np x.ns x.nt x.nd x.dp x.ds x.se x.da).ed.c, .int .i64 (Pv.mk 40 x.pr x.eg x.ed x.ik x.id x.am x.ad x.np x.ns x.nt x.nd x.dp x.ds x.se x.da).ik, .slice (Pv.mk 40 x.pr x.eg x.ed x.ik x.id x.am x.ad x.np x.ns x.nt x.nd x.dp x.ds x.se x.da).id.p (Pv.mk 40 x.pr x.eg x.ed x.ik x.id x.am x.ad x.np x.ns x.nt x.nd x.dp x.ds x.se x.da).id.n (Pv.mk 40 x.pr x.eg x.ed x.ik x.id x.am x.ad x.np x.ns x.nt x.nd x.dp x.ds x.se x.da).id.c, .int .i64 (Pv.mk 40 x.pr x.eg x.ed x.ik x.id x.am x.ad x.np x.ns x.nt x.nd x.dp x.ds x.se x.da).am, .slice (Pv.mk 40 x.pr x.eg x.ed x.ik x.id x.am x.ad x.np x.ns x.nt x.nd x.dp x.ds x.se x.da).ad.p (Pv.mk 40 x.pr x.eg x.ed x.ik x.id x.am x.ad x.np x.ns x.nt x.nd x.dp x.ds x.se x.da).ad.n (Pv.mk 40 x.pr x.eg x.ed x.ik x.id x.am x.ad x.np x.ns x.nt x.nd x.dp x.ds x.se x.da).ad.c, .int .i64 (Pv.mk 40 x.pr x.eg x.ed x.ik x.id x.am x.ad x.np x.ns x.nt x.nd x.dp x.ds x.se x.da).np, .slice (Pv.mk 40 x.pr x.eg x.ed x.ik x.id x.am x.ad x.np x.ns x.nt x.nd x.dp x.ds x.se x.da).ns.p (Pv.mk 40 x.pr x.eg x.ed x.ik x.id x.am x.ad x.np x.ns x.nt x.nd x.dp x.ds x.se x.da).ns.n (Pv.mk 40 x.pr x.eg x.ed x.ik x.id x.am x.ad x.np x.ns x.nt x.nd x.dp x.ds x.se x.da).ns.c, .int .i64 (Pv.mk 40 x.pr x.eg x.ed x.ik x.id x.am x.ad x.np x.ns x.nt x.nd x.dp x.ds x.se x.da).nt, .slice (Pv.mk 40 x.pr x.eg x.ed x.ik x.id x.am x.ad x.np x.ns x.nt x.nd x.dp x.ds x.se x.da).nd.p (Pv.mk 40 x.pr x.eg x.ed x.ik x.id x.am x.ad x.np x.ns x.nt x.nd x.dp x.ds x.se x.da).nd.n (Pv.mk 40 x.pr x.eg x.ed x.ik x.id x.am x.ad x.np x.ns x.nt x.nd x.dp x.ds x.se x.da).nd.c, .int .i64 (Pv.mk 40 x.pr x.eg x.ed x.ik x.id x.am x.ad x.np x.ns x.nt x.nd x.dp x.ds x.se x.da).dp, .slice (Pv.mk 40 x.pr x.eg x.ed x.ik x.id x.am x.ad x.np x.ns x.nt x.nd x.dp x.ds x.se x.da).ds.p (Pv.mk 40 x.pr x.eg x.ed x.ik x.id x.am x.ad x.np x.ns x.nt x.nd x.dp x.ds x.se x.da).ds.n (Pv.mk 40 x.pr x.eg x.ed x.ik x.id x.am x.ad x.np x.ns x.nt x.nd x.dp x.ds x.se x.da).ds.c, .slice (Pv.mk 40 x.pr x.eg x.ed x.ik x.id x.am x.ad x.np x.ns x.nt x.nd x.dp x.ds x.se x.da).se.p (Pv.mk 40 x.pr x.eg x.ed x.ik x.id x.am x.ad x.np x.ns x.nt x.nd x.dp x.ds x.se x.da).se.n (Pv.mk 40 x.pr x.eg x.ed x.ik x.id x.am x.ad x.np x.ns x.nt x.nd x.dp x.ds x.se x.da).se.c, .slice (Pv.mk 40 x.pr x.eg x.ed x.ik x.id x.am x.ad x.np x.ns x.nt x.nd x.dp x.ds x.se x.da).da.p (Pv.mk 40 x.pr x.eg x.ed x.ik x.id x.am x.ad x.np x.ns x.nt x.nd x.dp x.ds x.se x.da).da.n (Pv.mk 40 x.pr x.eg x.ed x.ik x.id x.am x.ad x.np x.ns x.nt x.nd x.dp x.ds x.se x.da).da.c] 45)
    have hb3 := HBA.out.alloc HBA.out.size (.cells #[.int .i64 (Pv.mk 40 x.pr x.eg x.ed x.ik x.id x.am x.ad x.np x.ns x.nt x.nd x.dp x.ds x.se x.da).t, .slice (Pv.mk 40 x.pr x.eg x.ed x.ik x.id x.am x.ad x.np x.ns x.nt x.nd x.dp x.ds x.se x.da).pr.p (Pv.mk 40 x.pr x.eg x.ed x.ik x.id x.am x.ad x.np x.ns x.nt x.nd x.dp x.ds x.se x.da).pr.n (Pv.mk 40 x.pr x.eg x.ed x.ik x.id x.am x.ad x.np x.ns x.nt x.nd x.dp x.ds x.se x.da).pr.c, .int .i64 (Pv.mk 40 x.pr x.eg x.ed x.ik x.id x.am x.ad x.np x.ns x.nt x.nd x.dp x.ds x.se x.da).eg, .slice (Pv.mk 40 x.pr x.eg x.ed x.ik x.id x.am x.ad x.np x.ns x.nt x.nd x.dp x.ds x.se x.da).ed.p (Pv.mk 40 x.pr x.eg x.ed x.ik x.id x.am x.ad x.np x.ns x.nt x.nd x.dp x.ds x.se x.da).ed.n (Pv.mk 40 x.pr x.eg x.ed x.ik x.id x.am x.ad x.np x.ns x.nt x.nd x.dp x.ds x.se x.da).ed.c, .int .i64 (Pv.mk 40 x.pr x.eg x.ed x.ik x.id x.am x.ad x.np x.ns x.nt x.nd x.dp x.ds x.se x.da).ik, .slice (Pv.mk 40 x.pr x.eg x.ed x.ik x.id x.am x.ad x.np x.ns x.nt x.nd x.dp x.ds x.se x.da).id.p (Pv.mk 40 x.pr x.eg x.ed x.ik x.id x.am x.ad x.np x.ns x.nt x.nd x.dp x.ds x.se x.da).id.n (Pv.mk 40 x.pr x.eg x.ed x.ik x.id x.am x.ad x.np x.ns x.nt x.nd x.dp x.ds x.se x.da).id.c, .int .i64 (Pv.mk 40 x.pr x.eg x.ed x.ik x.id x.am x.ad x.np x.ns x.nt x.nd x.dp x.ds x.se x.da).am, .slice (Pv.mk 40 x.pr x.eg x.ed x.ik x.id x.am x.ad x.np x.ns x.nt x.nd x.dp x.ds x.se x.da).ad.p (Pv.mk 40 x.pr x.eg x.ed x.ik x.id x.am x.ad x.np x.ns x.nt x.nd x.dp x.ds x.se x.da).ad.n (Pv.mk 40 x.pr x.eg x.ed x.ik x.id x.am x.ad x.np x.ns x.nt x.nd x.dp x.ds x.se x.da).ad.c, .int .i64 (Pv.mk 40 x.pr x.eg x.ed x.ik x.id x.am x.ad x.np x.ns x.nt x.nd x.dp x.ds x.se x.da).np, .slice (Pv.mk 40 x.pr x.eg x.ed x.ik x.id x.am x.ad x.np x.ns x.nt x.nd x.dp x.ds x.se x.da).ns.p (Pv.mk 40 x.pr x.eg x.ed x.ik x.id x.am x.ad x.np x.ns x.nt x.nd x.dp x.ds x.se x.da).ns.n (Pv.mk 40 x.pr x.eg x.ed x.ik x.id x.am x.ad x.np x.ns x.nt x.nd x.dp x.ds x.se x.da).ns.c, .int .i64 (Pv.mk 40 x.pr x.eg x.ed x.ik x.id x.am x.ad x.np x.ns x.nt x.nd x.dp x.ds x.se x.da).nt, .slice (Pv.mk 40 x.pr x.eg x.ed x.ik x.id x.am x.ad x.np x.ns x.nt x.nd x.dp x.ds x.se x.da).nd.p (Pv.mk 40 x.pr x.eg x.ed x.ik x.id x.am x.ad x.np x.ns x.nt x.nd x.dp x.ds x.se x.da).nd.n (Pv.mk 40 x.pr x.eg x.ed x.ik x.id x.am x.ad x.np x.ns x.nt x.nd x.dp x.ds x.se x.da).nd.c, .int .i64 (Pv.mk 40 x.pr x.eg x.ed x.ik x.id x.am x.ad x.np x.ns x.nt x.nd x.dp x.ds x.se x.da).dp, .slice (Pv.mk 40 x.pr x.eg x.ed x.ik x.id x.am x.ad x.np x.ns x.nt x.nd x.dp x.ds x.se x.da).ds.p (Pv.mk 40 x.pr x.eg x.ed x.ik x.id x.am x.ad x.np x.ns x.nt x.nd x.dp x.ds x.se x.da).ds.n (Pv.mk 40 x.pr x.eg x.ed x.ik x.id x.am x.ad x.np x.ns x.nt x.nd x.dp x.ds x.se x.da).ds.c, .slice (Pv.mk 40 x.pr x.eg x.ed x.ik x.id x.am x.ad x.np x.ns x.nt x.nd x.dp x.ds x.se x.da).se.p (Pv.mk 40 x.pr x.eg x.ed x.ik x.id x.am x.ad x.np x.ns x.nt x.nd x.dp x.ds x.se x.da).se.n (Pv.mk 40 x.pr x.eg x.ed x.ik x.id x.am x.ad x.np x.ns x.nt x.nd x.dp x.ds x.se x.da).se.c, .slice (Pv.mk 40 x.pr x.eg x.ed x.ik x.id x.am x.ad x.np x.ns x.nt x.nd x.dp x.ds x.se x.da).da.p (Pv.mk 40 x.pr x.eg x.ed x.ik x.id x.am x.ad x.np x.ns x.nt x.nd x.dp x.ds x.se x.da).da.n (Pv.mk 40 x.pr x.eg x.ed x.ik x.id x.am x.ad x.np x.ns x.nt x.nd x.dp x.ds x.se x.da).da.c] 45)
    have hg3 := G.keep (HGO.out rfl) (fun a v ha hc => cell_below ((Below.refl _ w2).alloc (Nat.le_refl _) (.cells #[.int .i64 (Pv.mk 40 x.pr x.eg x.ed x.ik x.id x.am x.ad x.np x.ns x.nt x.nd x.dp x.ds x.se x.da).t, .slice (Pv.mk 40 x.pr x.eg x.ed x.ik x.id x.am x.ad x.np x.ns x.nt x.nd x.dp x.ds x.se x.da).pr.p (Pv.mk 40 x.pr x.eg x.ed x.ik x.id x.am x.ad x.np x.ns x.nt x.nd x.dp x.ds x.se x.da).pr.n (Pv.mk 40 x.pr x.eg x.ed x.ik x.id x.am x.ad x.np x.ns x.nt x.nd x.dp x.ds x.se x.da).pr.c, .int .i64 (Pv.mk 40 x.pr x.eg x.ed x.ik x.id x.am x.ad x.np x.ns x.nt x.nd x.dp x.ds x.se x.da).eg, .slice (Pv.mk 40 x.pr x.eg x.ed x.ik x.id x.am x.ad x.np x.ns x.nt x.nd x.dp x.ds x.se x.da).ed.p (Pv.mk 40 x.pr x.eg x.ed x.ik x.id x.am x.ad x.np x.ns x.nt x.nd x.dp x.ds x.se x.da).ed.n (Pv.mk 40 x.pr x.eg x.ed x.ik x.id x.am x.ad x.np x.ns x.nt x.nd x.dp x.ds x.se x.da).ed.c, .int .i64 (Pv.mk 40 x.pr x.eg x.ed x.ik x.id x.am x.ad x.np x.ns x.nt x.nd x.dp x.ds x.se x.da).ik, .slice (Pv.mk 40 x.pr x.eg x.ed x.ik x.id x.am x.ad x.np x.ns x.nt x.nd x.dp x.ds x.se x.da).id.p (Pv.mk 40 x.pr x.eg x.ed x.ik x.id x.am x.ad x.np x.ns x.nt x.nd x.dp x.ds x.se x.da).id.n (Pv.mk 40 x.pr x.eg x.ed x.ik x.id x.am x.ad x.np x.ns x.nt x.nd x.dp x.ds x.se x.da).id.c, .int .i64 (Pv.mk 40 x.pr x.eg x.ed x.ik x.id x.am x.ad x.np x.ns x.nt x.nd x.dp x.ds x.se x.da).am, .slice (Pv.mk 40 x.pr x.eg x.ed x.ik x.id x.am x.ad x.np x.ns x.nt x.nd x.dp x.ds x.se x.da).ad.p (Pv.mk 40 x.pr x.eg x.ed x.ik x.id x.am x.ad x.np x.ns x.nt x.nd x.dp x.ds x.se x.da).ad.n (Pv.mk 40 x.pr x.eg x.ed x.ik x.id x.am x.ad x.np x.ns x.nt x.nd x.dp x.ds x.se x.da).ad.c, .int .i64 (Pv.mk 40 x.pr x.eg x.ed x.ik x.id x.am x.ad x.np x.ns x.nt x.nd x.dp x.ds x.se x.da).np, .slice (Pv.mk 40 x.pr x.eg x.ed x.ik x.id x.am x.ad x.np x.ns x.nt x.nd x.dp x.ds x.se x.da).ns.p (Pv.mk 40 x.pr x.eg x.ed x.ik x.id x.am x.ad x.np x.ns x.nt x.nd x.dp x.ds x.se x.da).ns.n (Pv.mk 40 x.pr x.eg x.ed x.ik x.id x.am x.ad x.np x.ns x.nt x.nd x.dp x.ds x.se x.da).ns.c, .int .i64 (Pv.mk 40 x.pr x.eg x.ed x.ik x.id x.am x.ad x.np x.ns x.nt x.nd x.dp x.ds x.se x.da).nt, .slice (Pv.mk 40 x.pr x.eg x.ed x.ik x.id x.am x.ad x.np x.ns x.nt x.nd x.dp x.ds x.se x.da).nd.p (Pv.mk 40 x.pr x.eg x.ed x.ik x.id x.am x.ad x.np x.ns x.nt x.nd x.dp x.ds x.se x.da).nd.n (Pv.mk 40 x.pr x.eg x.ed x.ik x.id x.am x.ad x.np x.ns x.nt x.nd x.dp x.ds x.se x.da).nd.c, .int .i64 (Pv.mk 40 x.pr x.eg x.ed x.ik x.id x.am x.ad x.np x.ns x.nt x.nd x.dp x.ds x.se x.da).dp, .slice (Pv.mk 40 x.pr x.eg x.ed x.ik x.id x.am x.ad x.np x.ns x.nt x.nd x.dp x.ds x.se x.da).ds.p (Pv.mk 40 x.pr x.eg x.ed x.ik x.id x.am x.ad x.np x.ns x.nt x.nd x.dp x.ds x.se x.da).ds.n (Pv.mk 40 x.pr x.eg x.ed x.ik x.id x.am x.ad x.np x.ns x.nt x.nd x.dp x.ds x.se x.da).ds.c, .slice (Pv.mk 40 x.pr x.eg x.ed x.ik x.id x.am x.ad x.np x.ns x.nt x.nd x.dp x.ds x.se x.da).se.p (Pv.mk 40 x.pr x.eg x.ed x.ik x.id x.am x.ad x.np x.ns x.nt x.nd x.dp x.ds x.se x.da).se.n (Pv.mk 40 x.pr x.eg x.ed x.ik x.id x.am x.ad x.np x.ns x.nt x.nd x.dp x.ds x.se x.da).se.c, .slice (Pv.mk 40 x.pr x.eg x.ed x.ik x.id x.am x.ad x.np x.ns x.nt x.nd x.dp x.ds x.se x.da).da.p (Pv.mk 40 x.pr x.eg x.ed x.ik x.id x.am x.ad x.np x.ns x.nt x.nd x.dp x.ds x.se x.da).da.n (Pv.mk 40 x.pr x.eg x.ed x.ik x.id x.am x.ad x.np x.ns x.nt x.nd x.dp x.ds x.se x.da).da.c] 45)) _ _ hc)
    simp only at hk3 hz3 hb3 hg3
    have HK3 := hidden hk3
    have HZ3 := hidden hz3
    have HB3 := hidden hb3
    have HG3 := hidden hg3
    clear hk3 hz3 hb3 hg3 HGO HZA HBA
    go_upto_region 6 with fail
    clear d0
    generalize hw3 : w2.alloc (.cells #[.int .i64 40, .slice x.pr.p x.pr.n x.pr.c, .int .i64 x.eg, .slice x.ed.p x.ed.n x.ed.c, .int .i64 x.ik, .slice x.id.p x.id.n x.id.c, .int .i64 x.am, .slice x.ad.p x.ad.n x.ad.c, .int .i64 x.np, .slice x.ns.p x.ns.n x.ns.c, .int .i64 x.nt, .slice x.nd.p x.nd.n x.nd.c, .int .i64 x.dp, .slice x.ds.p x.ds.n x.ds.c, .slice x.se.p x.se.n x.se.c, .slice x.da.p x.da.n x.da.c] 45) = w3 at *
    generalize w2.heap.size = g5 at *
    clear hw3
    obtain ⟨k0, k1, k2, k3, k4, k5, k6, k7, k8, k9, k10, k11, k12, k13, k14, k15, kfr⟩ := HK3.out
    obtain ⟨y0, y1, y2, y3, y4, y5, y6, y7, y8, y9, y10, y11, y12, y13, y14, y15, z0, z1, z2, z3, z4, z5, z6, z7, z8, z9, z10, z11, z12, z13, z14, z15, zf⟩ := HZ3.out.any
    have hz := stored_pv HZ3.out HB3.out (by omega) { x with t := 40 }
    have hgd := (G.ty 40 (G.keep HG3.out (fun a v ha hc => (setPv_grown w3 (w.heap.size + 1) { x with t := 40 }).cell hc (by rw [HSZ.out] at ha; simp; omega))))
    simp only [setPv] at hz hgd
    have HZZ := hidden hz
    have HGG := hidden (G.mono hgd (by rw [HSZ.out]; omega : w.heap.size ≤ _))
    clear hz hgd
    go_wp2
    exact ret_pv (g := w.heap.size + 1) rfl rfl rfl rfl HZZ.out.1 ⟨_, rfl, HZZ.out.2, Or.inl ⟨rfl, rfl, HGG.out⟩⟩
  · have hE' : (E != 0) = true := by simpa using hE
    have HE := hidden hE
    clear hE HGO
    have HZ2 := hidden (HZA.out.alloc (.cells #[.int .i64 x.t, .slice x.pr.p x.pr.n x.pr.c, .int .i64 x.eg, .slice x.ed.p x.ed.n x.ed.c, .int .i64 x.ik, .slice x.id.p x.id.n x.id.c, .int .i64 x.am, .slice x.ad.p x.ad.n x.ad.c, .int .i64 x.np, .slice x.ns.p x.ns.n x.ns.c, .int .i64 x.nt, .slice x.nd.p x.nd.n x.nd.c, .int .i64 x.dp, .slice x.ds.p x.ds.n x.ds.c, .slice x.se.p x.se.n x.se.c, .slice x.da.p x.da.n x.da.c] 45))
    have HB2 := hidden (HBA.out.alloc HBA.out.size (.cells #[.int .i64 x.t, .slice x.pr.p x.pr.n x.pr.c, .int .i64 x.eg, .slice x.ed.p x.ed.n x.ed.c, .int .i64 x.ik, .slice x.id.p x.id.n x.id.c, .int .i64 x.am, .slice x.ad.p x.ad.n x.ad.c, .int .i64 x.np, .slice x.ns.p x.ns.n x.ns.c, .int .i64 x.nt, .slice x.nd.p x.nd.n x.nd.c, .int .i64 x.dp, .slice x.ds.p x.ds.n x.ds.c, .slice x.se.p x.se.n x.se.c, .slice x.da.p x.da.n x.da.c] 45))
    clear HZA HBA
    generalize hw3 : w2.alloc (.cells #[.int .i64 x.t, .slice x.pr.p x.pr.n x.pr.c, .int .i64 x.eg, .slice x.ed.p x.ed.n x.ed.c, .int .i64 x.ik, .slice x.id.p x.id.n x.id.c, .int .i64 x.am, .slice x.ad.p x.ad.n x.ad.c, .int .i64 x.np, .slice x.ns.p x.ns.n x.ns.c, .int .i64 x.nt, .slice x.nd.p x.nd.n x.nd.c, .int .i64 x.dp, .slice x.ds.p x.ds.n x.ds.c, .slice x.se.p x.se.n x.se.c, .slice x.da.p x.da.n x.da.c] 45) = w3 at *
    obtain ⟨y0, y1, y2, y3, y4, y5, y6, y7, y8, y9, y10, y11, y12, y13, y14, y15, z0, z1, z2, z3, z4, z5, z6, z7, z8, z9, z10, z11, z12, z13, z14, z15, zf⟩ := HZ2.out.any
    have hz := stored_pv HZ2.out HB2.out (by omega) zeroP
    simp only [setPv, zeroP, nilV] at hz
    have HZZ := hidden hz
    clear hz hw3
    go_wp2
    exact ret_pv (g := w.heap.size + 1) rfl rfl rfl rfl HZZ.out.1 ⟨zeroP, rfl, HZZ.out.2, Or.inr ⟨HE.out, rfl⟩⟩
end Go.Proofs.YtbpmanbpmlkmnaaGreatDoor

namespace Go.Proofs.YtbpmanbpmlkmnaaGreatDoor
open Go.RowKit
set_option linter.unusedVariables false

theorem reader_41 (p : Option Addr) (n c : Nat) (w : World) :
    Calls Tryz.prog 19 #[.slice p n c, .int .i64 41] w fun e w' => e = .returned (.func (.func 46) #[.slice p n c] #[]) ∧ w = w' := by
  go_enter Tryz.func19, Tryz.ntmps19
  go_wp2
  go_ret
  exact ⟨rfl, rfl⟩

set_option maxHeartbeats 1600000 in
set_option maxRecDepth 100000 in
theorem pparse_41 (p : Option Addr) (n c : Nat) (xs : List Int) (cr : Bool) (E : Int) (G : Gd) (w : World) (h : Byt w p n c xs) (HRD : ∀ w, Byt w p n c xs → Calls Tryz.prog 46 #[.slice p n c] w (ReadPv w E (fun w' x => G.ok w.heap.size w' x))) :
    Calls Tryz.prog 10 #[.agg #[.int .i64 41, .bool cr, .slice p n c]] w (ParsedV w 41 E G) := by
  have HX := hidden ((h.alloc (.cells #[.int .i64 41, .bool cr, .slice p n c] 27)).alloc (.cells #[.int .i64 0, .slice none 0 0, .int .i64 0, .slice none 0 0, .int .i64 0, .slice none 0 0, .int .i64 0, .slice none 0 0, .int .i64 0, .slice none 0 0, .int .i64 0, .slice none 0 0, .int .i64 0, .slice none 0 0, .slice none 0 0, .slice none 0 0] 45))
  have HB := hidden (((Below.refl w.heap.size w).alloc (Nat.le_refl _) (.cells #[.int .i64 41, .bool cr, .slice p n c] 27)).alloc (by simp) (.cells #[.int .i64 0, .slice none 0 0, .int .i64 0, .slice none 0 0, .int .i64 0, .slice none 0 0, .int .i64 0, .slice none 0 0, .int .i64 0, .slice none 0 0, .int .i64 0, .slice none 0 0, .int .i64 0, .slice none 0 0, .slice none 0 0, .slice none 0 0] 45))
  have HZ : Hid (PvIn ((w.alloc (.cells #[.int .i64 41, .bool cr, .slice p n c] 27)).alloc (.cells #[.int .i64 0, .slice none 0 0, .int .i64 0, .slice none 0 0, .int .i64 0, .slice none 0 0, .int .i64 0, .slice none 0 0, .int .i64 0, .slice none 0 0, .int .i64 0, .slice none 0 0, .int .i64 0, .slice none 0 0, .slice none 0 0, .slice none 0 0] 45)) (w.heap.size + 1) zeroP) := hidden (by
    have := PvIn.new (w.alloc (.cells #[.int .i64 41, .bool cr, .slice p n c] 27)) zeroP 45
    simpa [zeroP, nilV] using this)
  have HW0 := hidden (show ((w.alloc (.cells #[.int .i64 41, .bool cr, .slice p n c] 27)).alloc (.cells #[.int .i64 0, .slice none 0 0, .int .i64 0, .slice none 0 0, .int .i64 0, .slice none 0 0, .int .i64 0, .slice none 0 0, .int .i64 0, .slice none 0 0, .int .i64 0, .slice none 0 0, .int .i64 0, .slice none 0 0, .slice none 0 0, .slice none 0 0] 45)).cell? ⟨w.heap.size, 0, none⟩ = some (.int .i64 41) by go_simp)
  have HSZ := hidden (show ((w.alloc (.cells #[.int .i64 41, .bool cr, .slice p n c] 27)).alloc (.cells #[.int .i64 0, .slice none 0 0, .int .i64 0, .slice none 0 0, .int .i64 0, .slice none 0 0, .int .i64 0, .slice none 0 0, .int .i64 0, .slice none 0 0, .int .i64 0, .slice none 0 0, .int .i64 0, .slice none 0 0, .slice none 0 0, .slice none 0 0] 45)).heap.size = w.heap.size + 1 + 1 by simp)
  have HR := hidden HRD
  clear h HRD
  go_enter Tryz.func10, Tryz.ntmps10
  go_upto_region 3 with (first
    | (go_at_call 19; (with_reducible refine (reader_41 _ _ _ _).mono ?_); rintro e w' ⟨rfl, rfl⟩)
    | (go_at_call 46; (with_reducible refine (HR.out _ HX.out).mono ?_); rintro e w2 ⟨x, rfl, hb2, hgood⟩; have HBA := hidden (HB.out.trans (hb2.mono HB.out.size)); have HZA := hidden (HZ.out.below hb2); have HGO := hidden hgood; have HDA := hidden (cell_below hb2 _ _ HW0.out); have d0 := cell_below ((Below.refl _ w2).alloc (Nat.le_refl _) (.cells #[.int .i64 x.t, .slice x.pr.p x.pr.n x.pr.c, .int .i64 x.eg, .slice x.ed.p x.ed.n x.ed.c, .int .i64 x.ik, .slice x.id.p x.id.n x.id.c, .int .i64 x.am, .slice x.ad.p x.ad.n x.ad.c, .int .i64 x.np, .slice x.ns.p x.ns.n x.ns.c, .int .i64 x.nt, .slice x.nd.p x.nd.n x.nd.c, .int .i64 x.dp, .slice x.ds.p x.ds.n x.ds.c, .slice x.se.p x.se.n x.se.c, .slice x.da.p x.da.n x.da.c] 45)) _ _ HDA.out; have HSB := hidden hb2.size; clear hb2 hgood)
    | fail)
  have hsb := HSB.out
  rw [HSZ.out] at hsb
  have hne1 : ¬ w2.heap.size = w.heap.size + 1 := by omega
  have hne2 : ¬ w.heap.size + 1 = w2.heap.size := by omega
  by_cases hE : E = 0
  · subst hE
    have hk3 := PvIn.new w2 { x with t := 41 } 45
    have hz3 := HZA.out.alloc (.cells #[.int .i64 (Pv.mk 41 x.pr x.eg x.ed x.ik x.id x.am x.ad x.np x.ns x.nt x.nd x.dp x.ds x.se x.da).t, .slice (Pv.mk 41 x.pr x.eg x.ed x.ik x.id x.am x.ad x.np x.ns x.nt x.nd x.dp x.ds x.se x.da).pr.p (Pv.mk 41 x.pr x.eg x.ed x.ik x.id x.am x.ad x.np x.ns x.nt x.nd x.dp x.ds x.se x.da).pr.n (Pv.mk 41 x.pr x.eg x.ed x.ik x.id x.am x.ad x.np x.ns x.nt x.nd x.dp x.ds x.se x.da).pr.c, .int .i64 (Pv.mk 41 x.pr x.eg x.ed x.ik x.id x.am x.ad x.np x.ns x.nt x.nd x.dp x.ds x.se x.da).eg, .slice (Pv.mk 41 x.pr x.eg x.ed x.ik x.id x.am x.ad x.np x.ns x.nt x.nd x.dp x.ds x.se x.da).ed.p (Pv.mk 41 x.pr x.eg x.ed x.ik x.id x.am x.ad x.np x.ns x.nt x.nd x.dp x.ds x.se x.da).ed.n (Pv.mk 41 x.pr x.eg x.ed x.ik x.id x.am x.ad x.np x.ns x.nt x.nd x.dp x.ds x.se x.da).ed.c, .int .i64 (Pv.mk 41 x.pr x.eg x.ed x.ik x.id x.am x.ad x.np x.ns x.nt x.nd x.dp x.ds x.se x.da).ik, .slice (Pv.mk 41 x.pr x.eg x.ed x.ik x.id x.am x.ad x.np x.ns x.nt x.nd x.dp x.ds x.se x.da).id.p (Pv.mk 41 x.pr x.eg x.ed x.ik x.id x.am x.ad x.np x.ns x.nt x.nd x.dp x.ds x.se x.da).id.n (Pv.mk 41 x.pr x.eg x.ed x.ik x.id x.am x.ad x.np x.ns x.nt x.nd x.dp x.ds x.se x.da).id.c, .int .i64 (Pv.mk 41 x.pr x.eg x.ed x.ik x.id x.am x.ad x.np x.ns x.nt x.nd x.dp x.ds x.se x.da).am, .slice (Pv.mk 41 x.pr x.eg x.ed x.ik x.id x.am x.ad x.np x.ns x.nt x.nd x.dp x.ds x.se x.da).ad.p (Pv.mk 41 x.pr x.eg x.ed x.ik x.id x.am x.ad x.np x.ns x.nt x.nd x.dp x.ds x.se x.da).ad.n (Pv.mk 41 x.pr x.eg x.ed x.ik x.id x.am x.ad x.np x.ns x.nt x.nd x.dp x.ds x.se x.da).ad.c, .int .i64 (Pv.mk 41 x.pr x.eg x.ed x.ik x.id x.am x.ad x.np x.ns x.nt x.nd x.dp x.ds x.se x.da).np, .slice (Pv.mk 41 x.pr x.eg x.ed x.ik x.id x.am x.ad x.np x.ns x.nt x.nd x.dp x.ds x.se x.da).ns.p (Pv.mk 41 x.pr x.eg x.ed x.ik x.id x.am x.ad x.np x.ns x.nt x.nd x.dp x.ds x.se x.da).ns.n (Pv.mk 41 x.pr x.eg x.ed x.ik x.id x.am x.ad x.np x.ns x.nt x.nd x.dp x.ds x.se x.da).ns.c, .int .i64 (Pv.mk 41 x.pr x.eg x.ed x.ik x.id x.am x.ad x.np x.ns x.nt x.nd x.dp x.ds x.se x.da).nt, .slice (Pv.mk 41 x.pr x.eg x.ed x.ik x.id x.am x.ad x.np x.ns x.nt x.nd x.dp x.ds x.se x.da).nd.p (Pv.mk 41 x.pr x.eg x.ed x.ik x.id x.am x.ad x.np x.ns x.nt x.nd x.dp x.ds x.se x.da).nd.n (Pv.mk 41 x.pr x.eg x.ed x.ik x.id x.am x.ad x.np x.ns x.nt x.nd x.dp x.ds x.se x.da).nd.c, .int .i64 (Pv.mk 41 x.pr x.eg x.ed x.ik x.id x.am x.ad x.np x.ns x.nt x.nd x.dp x.ds x.se x.da).dp, .slice (Pv.mk 41 x.pr x.eg x.ed x.ik x.id x.am x.ad x.np x.ns x.nt x.nd x.dp x.ds x.se x.da).ds.p (Pv.mk 41 x.pr x.eg x.ed x.ik x.id x.am x.ad x.np x.ns x.nt x.nd x.dp x.ds x.se x.da).ds.n (Pv.mk 41 x.pr x.eg x.ed x.ik x.id x.am x.ad x.np x.ns x.nt x.nd x.dp x.ds x.se x.da).ds.c, .slice (Pv.mk 41 x.pr x.eg x.ed x.ik x.id x.am x.ad x.np x.ns x.nt x.nd x.dp x.ds x.se x.da).se.p (Pv.mk 41 x.pr x.eg x.ed x.ik x.id x.am x.ad x.np x.ns x.nt x.nd x.dp x.ds x.se x.da).se.n (Pv.mk 41 x.pr x.eg x.ed x.ik x.id x.am x.ad x.np x.ns x.nt x.nd x.dp x.ds x.se x.da).se.c, .slice (Pv.mk 41 x.pr x.eg x.ed x.ik x.id x.am x.ad x.np x.ns x.nt x.nd x.dp x.ds x.se x.da).da.p (Pv.mk 41 x.pr x.eg x.ed x.ik x.id x.am x.ad x.np x.ns x.nt x.nd x.dp x.ds x.se x.da).da.n (Pv.mk 41 x.pr x.eg x.ed x.ik x.id x.am x.ad x.np x.ns x.nt x.nd x.dp x.ds x.se x.da).da.c] 45)
    have hb3 := HBA.out.alloc HBA.out.size (.cells #[.int .i64 (Pv.mk 41 x.pr x.eg x.ed x.ik x.id x.am x.ad x.np x.ns x.nt x.nd x.dp x.ds x.se x.da).t, .slice (Pv.mk 41 x.pr x.eg x.ed x.ik x.id x.am x.ad x.np x.ns x.nt x.nd x.dp x.ds x.se x.da).pr.p (Pv.mk 41 x.pr x.eg x.ed x.ik x.id x.am x.ad x.np x.ns x.nt x.nd x.dp x.ds x.se x.da).pr.n (Pv.mk 41 x.pr x.eg x.ed x.ik x.id x.am x.ad x.np x.ns x.nt x.nd x.dp x.ds x.se x.da).pr.c, .int .i64 (Pv.mk 41 x.pr x.eg x.ed x.ik x.id x.am x.ad x.np x.ns x.nt x.nd x.dp x.ds x.se x.da).eg, .slice (Pv.mk 41 x.pr x.eg x.ed x.ik x.id x.am x.ad x.np x.ns x.nt x.nd x.dp x.ds x.se x.da).ed.p (Pv.mk 41 x.pr x.eg x.ed x.ik x.id x.am x.ad x.np x.ns x.nt x.nd x.dp x.ds x.se x.da).ed.n (Pv.mk 41 x.pr x.eg x.ed x.ik x.id x.am x.ad x.np x.ns x.nt x.nd x.dp x.ds x.se x.da).ed.c, .int .i64 (Pv.mk 41 x.pr x.eg x.ed x.ik x.id x.am x.ad x.np x.ns x.nt x.nd x.dp x.ds x.se x.da).ik, .slice (Pv.mk 41 x.pr x.eg x.ed x.ik x.id x.am x.ad x.np x.ns x.nt x.nd x.dp x.ds x.se x.da).id.p (Pv.mk 41 x.pr x.eg x.ed x.ik x.id x.am x.ad x.np x.ns x.nt x.nd x.dp x.ds x.se x.da).id.n (Pv.mk 41 x.pr x.eg x.ed x.ik x.id x.am x.ad x.np x.ns x.nt x.nd x.dp x.ds x.se x.da).id.c, .int .i64 (Pv.mk 41 x.pr x.eg x.ed x.ik x.id x.am x.ad x.np x.ns x.nt x.nd x.dp x.ds x.se x.da).am, .slice (Pv.mk 41 x.pr x.eg x.ed x.ik x.id x.am x.ad x.np x.ns x.nt x.nd x.dp x.ds x.se x.da).ad.p (Pv.mk 41 x.pr x.eg x.ed x.ik x.id x.am x.ad x.np x.ns x.nt x.nd x.dp x.ds x.se x.da).ad.n (Pv.mk 41 x.pr x.eg x.ed x.ik x.id x.am x.ad x.np x.ns x.nt x.nd x.dp x.ds x.se x.da).ad.c, .int .i64 (Pv.mk 41 x.pr x.eg x.ed x.ik x.id x.am x.ad x.np x.ns x.nt x.nd x.dp x.ds x.se x.da).np, .slice (Pv.mk 41 x.pr x.eg x.ed x.ik x.id x.am x.ad x.np x.ns x.nt x.nd x.dp x.ds x.se x.da).ns.p (Pv.mk 41 x.pr x.eg x.ed x.ik x.id x.am x.ad x.np x.ns x.nt x.nd x.dp x.ds x.se x.da).ns.n (Pv.mk 41 x.pr x.eg x.ed x.ik x.id x.am x.ad x.np x.ns x.nt x.nd x.dp x.ds x.se x.da).ns.c, .int .i64 (Pv.mk 41 x.pr x.eg x.ed x.ik x.id x.am x.ad x.np x.ns x.nt x.nd x.dp x.ds x.se x.da).nt, .slice (Pv.mk 41 x.pr x.eg x.ed x.ik x.id x.am x.ad x.np x.ns x.nt x.nd x.dp x.ds x.se x.da).nd.p (Pv.mk 41 x.pr x.eg x.ed x.ik x.id x.am x.ad x.np x.ns x.nt x.nd x.dp x.ds x.se x.da).nd.n (Pv.mk 41 x.pr x.eg x.ed x.ik x.id x.am x.ad x.np x.ns x.nt x.nd x.dp x.ds x.se x.da).nd.c, .int .i64 (Pv.mk 41 x.pr x.eg x.ed x.ik x.id x.am x.ad x.np x.ns x.nt x.nd x.dp x.ds x.se x.da).dp, .slice (Pv.mk 41 x.pr x.eg x.ed x.ik x.id x.am x.ad x.np x.ns x.nt x.nd x.dp x.ds x.se x.da).ds.p (Pv.mk 41 x.pr x.eg x.ed x.ik x.id x.am x.ad x.np x.ns x.nt x.nd x.dp x.ds x.se x.da).ds.n (Pv.mk 41 x.pr x.eg x.ed x.ik x.id x.am x.ad x.np x.ns x.nt x.nd x.dp x.ds x.se x.da).ds.c, .slice (Pv.mk 41 x.pr x.eg x.ed x.ik x.id x.am x.ad x.np x.ns x.nt x.nd x.dp x.ds x.se x.da).se.p (Pv.mk 41 x.pr x.eg x.ed x.ik x.id x.am x.ad x.np x.ns x.nt x.nd x.dp x.ds x.se x.da).se.n (Pv.mk 41 x.pr x.eg x.ed x.ik x.id x.am x.ad x.np x.ns x.nt x.nd x.dp x.ds x.se x.da).se.c, .slice (Pv.mk 41 x.pr x.eg x.ed x.ik x.id x.am x.ad x.np x.ns x.nt x.nd x.dp x.ds x.se x.da).da.p (Pv.mk 41 x.pr x.eg x.ed x.ik x.id x.am x.ad x.np x.ns x.nt x.nd x.dp x.ds x.se x.da).da.n (Pv.mk 41 x.pr x.eg x.ed x.ik x.id x.am x.ad x.np x.ns x.nt x.nd x.dp x.ds x.se x.da).da.c] 45)
    have hg3 := G.keep (HGO.out rfl) (fun a v ha hc => cell_below ((Below.refl _ w2).alloc (Nat.le_refl _) (.cells #[.int .i64 (Pv.mk 41 x.pr x.eg x.ed x.ik x.id x.am x.ad x.np x.ns x.nt x.nd x.dp x.ds x.se x.da).t, .slice (Pv.mk 41 x.pr x.eg x.ed x.ik x.id x.am x.ad x.np x.ns x.nt x.nd x.dp x.ds x.se x.da).pr.p (Pv.mk 41 x.pr x.eg x.ed x.ik x.id x.am x.ad x.np x.ns x.nt x.nd x.dp x.ds x.se x.da).pr.n (Pv.mk 41 x.pr x.eg x.ed x.ik x.id x.am x.ad x.np x.ns x.nt x.nd x.dp x.ds x.se x.da).pr.c, .int .i64 (Pv.mk 41 x.pr x.eg x.ed x.ik x.id x.am x.ad x.np x.ns x.nt x.nd x.dp x.ds x.se x.da).eg, .slice (Pv.mk 41 x.pr x.eg x.ed x.ik x.id x.am x.ad x.np x.ns x.nt x.nd x.dp x.ds x.se x.da).ed.p (Pv.mk 41 x.pr x.eg x.ed x.ik x.id x.am x.ad x.np x.ns x.nt x.nd x.dp x.ds x.se x.da).ed.n (Pv.mk 41 x.pr x.eg x.ed x.ik x.id x.am x.ad x.np x.ns x.nt x.nd x.dp x.ds x.se x.da).ed.c, .int .i64 (Pv.mk 41 x.pr x.eg x.ed x.ik x.id x.am x.ad x.np x.ns x.nt x.nd x.dp x.ds x.se x.da).ik, .slice (Pv.mk 41 x.pr x.eg x.ed x.ik x.id x.am x.ad x.np x.ns x.nt x.nd x.dp x.ds x.se x.da).id.p (Pv.mk 41 x.pr x.eg x.ed x.ik x.id x.am x.ad x.np x.ns x.nt x.nd x.dp x.ds x.se x.da).id.n (Pv.mk 41 x.pr x.eg x.ed x.ik x.id x.am x.ad x.np x.ns x.nt x.nd x.dp x.ds x.se x.da).id.c, .int .i64 (Pv.mk 41 x.pr x.eg x.ed x.ik x.id x.am x.ad x.np x.ns x.nt x.nd x.dp x.ds x.se x.da).am, .slice (Pv.mk 41 x.pr x.eg x.ed x.ik x.id x.am x.ad x.np x.ns x.nt x.nd x.dp x.ds x.se x.da).ad.p (Pv.mk 41 x.pr x.eg x.ed x.ik x.id x.am x.ad x.np x.ns x.nt x.nd x.dp x.ds x.se x.da).ad.n (Pv.mk 41 x.pr x.eg x.ed x.ik x.id x.am x.ad x.np x.ns x.nt x.nd x.dp x.ds x.se x.da).ad.c, .int .i64 (Pv.mk 41 x.pr x.eg x.ed x.ik x.id x.am x.ad x.np x.ns x.nt x.nd x.dp x.ds x.se x.da).np, .slice (Pv.mk 41 x.pr x.eg x.ed x.ik x.id x.am x.ad x.np x.ns x.nt x.nd x.dp x.ds x.se x.da).ns.p (Pv.mk 41 x.pr x.eg x.ed x.ik x.id x.am x.ad x.np x.ns x.nt x.nd x.dp x.ds x.se x.da).ns.n (Pv.mk 41 x.pr x.eg x.ed x.ik x.id x.am x.ad x.np x.ns x.nt x.nd x.dp x.ds x.se x.da).ns.c, .int .i64 (Pv.mk 41 x.pr x.eg x.ed x.ik x.id x.am x.ad x.np x.ns x.nt x.nd x.dp x.ds x.se x.da).nt, .slice (Pv.mk 41 x.pr x.eg x.ed x.ik x.id x.am x.ad x.np x.ns x.nt x.nd x.dp x.ds x.se x.da).nd.p (Pv.mk 41 x.pr x.eg x.ed x.ik x.id x.am x.ad x.np x.ns x.nt x.nd x.dp x.ds x.se x.da).nd.n (Pv.mk 41 x.pr x.eg x.ed x.ik x.id x.am x.ad x.np x.ns x.nt x.nd x.dp x.ds x.se x.da).nd.c, .int .i64 (Pv.mk 41 x.pr x.eg x.ed x.ik x.id x.am x.ad x.np x.ns x.nt x.nd x.dp x.ds x.se x.da).dp, .slice (Pv.mk 41 x.pr x.eg x.ed x.ik x.id x.am x.ad x.np x.ns x.nt x.nd x.dp x.ds x.se x.da).ds.p (Pv.mk 41 x.pr x.eg x.ed x.ik x.id x.am x.ad x.np x.ns x.nt x.nd x.dp x.ds x.se x.da).ds.n (Pv.mk 41 x.pr x.eg x.ed x.ik x.id x.am x.ad x.np x.ns x.nt x.nd x.dp x.ds x.se x.da).ds.c, .slice (Pv.mk 41 x.pr x.eg x.ed x.ik x.id x.am x.ad x.np x.ns x.nt x.nd x.dp x.ds x.se x.da).se.p (Pv.mk 41 x.pr x.eg x.ed x.ik x.id x.am x.ad x.np x.ns x.nt x.nd x.dp x.ds x.se x.da).se.n (Pv.mk 41 x.pr x.eg x.ed x.ik x.id x.am x.ad x.np x.ns x.nt x.nd x.dp x.ds x.se x.da).se.c, .slice (Pv.mk 41 x.pr x.eg x.ed x.ik x.id x.am x.ad x.np x.ns x.nt x.nd x.dp x.ds x.se x.da).da.p (Pv.mk 41 x.pr x.eg x.ed x.ik x.id x.am x.ad x.np x.ns x.nt x.nd x.dp x.ds x.se x.da).da.n (Pv.mk 41 x.pr x.eg x.ed x.ik x.id x.am x.ad x.np x.ns x.nt x.nd x.dp x.ds x.se x.da).da.c] 45)) _ _ hc)
    simp only at hk3 hz3 hb3 hg3
    have HK3 := hidden hk3
    have HZ3 := hidden hz3
    have HB3 := hidden hb3
    have HG3 := hidden hg3
    clear hk3 hz3 hb3 hg3 HGO HZA HBA
    go_upto_region 6 with fail
    clear d0
    generalize hw3 : w2.alloc (.cells #[.int .i64 41, .slice x.pr.p x.pr.n x.pr.c, .int .i64 x.eg, .slice x.ed.p x.ed.n x.ed.c, .int .i64 x.ik, .slice x.id.p x.id.n x.id.c, .int .i64 x.am, .slice x.ad.p x.ad.n x.ad.c, .int .i64 x.np, .slice x.ns.p x.ns.n x.ns.c, .int .i64 x.nt, .slice x.nd.p x.nd.n x.nd.c, .int .i64 x.dp, .slice x.ds.p x.ds.n x.ds.c, .slice x.se.p x.se.n x.se.c, .slice x.da.p x.da.n x.da.c] 45) = w3 at *
    generalize w2.heap.size = g5 at *
    clear hw3
    obtain ⟨k0, k1, k2, k3, k4, k5, k6, k7, k8, k9, k10, k11, k12, k13, k14, k15, kfr⟩ := HK3.out
    obtain ⟨y0, y1, y2, y3, y4, y5, y6, y7, y8, y9, y10, y11, y12, y13, y14, y15, z0, z1, z2, z3, z4, z5, z6, z7, z8, z9, z10, z11, z12, z13, z14, z15, zf⟩ := HZ3.out.any
    have hz := stored_pv HZ3.out HB3.out (by omega) { x with t := 41 }
    have hgd := (G.ty 41 (G.keep HG3.out (fun a v ha hc => (setPv_grown w3 (w.heap.size + 1) { x with t := 41 }).cell hc (by rw [HSZ.out] at ha; simp; omega))))
    simp only [setPv] at hz hgd
    have HZZ := hidden hz
    have HGG := hidden (G.mono hgd (by rw [HSZ.out]; omega : w.heap.size ≤ _))
    clear hz hgd
    go_wp2
    exact ret_pv (g := w.heap.size + 1) rfl rfl rfl rfl HZZ.out.1 ⟨_, rfl, HZZ.out.2, Or.inl ⟨rfl, rfl, HGG.out⟩⟩
  · have hE' : (E != 0) = true := by simpa using hE
    have HE := hidden hE
    clear hE HGO
    have HZ2 := hidden (HZA.out.alloc (.cells #[.int .i64 x.t, .slice x.pr.p x.pr.n x.pr.c, .int .i64 x.eg, .slice x.ed.p x.ed.n x.ed.c, .int .i64 x.ik, .slice x.id.p x.id.n x.id.c, .int .i64 x.am, .slice x.ad.p x.ad.n x.ad.c, .int .i64 x.np, .slice x.ns.p x.ns.n x.ns.c, .int .i64 x.nt, .slice x.nd.p x.nd.n x.nd.c, .int .i64 x.dp, .slice x.ds.p x.ds.n x.ds.c, .slice x.se.p x.se.n x.se.c, .slice x.da.p x.da.n x.da.c] 45))
    have HB2 := hidden (HBA.out.alloc HBA.out.size (.cells #[.int .i64 x.t, .slice x.pr.p x.pr.n x.pr.c, .int .i64 x.eg, .slice x.ed.p x.ed.n x.ed.c, .int .i64 x.ik, .slice x.id.p x.id.n x.id.c, .int .i64 x.am, .slice x.ad.p x.ad.n x.ad.c, .int .i64 x.np, .slice x.ns.p x.ns.n x.ns.c, .int .i64 x.nt, .slice x.nd.p x.nd.n x.nd.c, .int .i64 x.dp, .slice x.ds.p x.ds.n x.ds.c, .slice x.se.p x.se.n x.se.c, .slice x.da.p x.da.n x.da.c] 45))
    clear HZA HBA
    generalize hw3 : w2.alloc (.cells #[.int .i64 x.t, .slice x.pr.p x.pr.n x.pr.c, .int .i64 x.eg, .slice x.ed.p x.ed.n x.ed.c, .int .i64 x.ik, .slice x.id.p x.id.n x.id.c, .int .i64 x.am, .slice x.ad.p x.ad.n x.ad.c, .int .i64 x.np, .slice x.ns.p x.ns.n x.ns.c, .int .i64 x.nt, .slice x.nd.p x.nd.n x.nd.c, .int .i64 x.dp, .slice x.ds.p x.ds.n x.ds.c, .slice x.se.p x.se.n x.se.c, .slice x.da.p x.da.n x.da.c] 45) = w3 at *
    obtain ⟨y0, y1, y2, y3, y4, y5, y6, y7, y8, y9, y10, y11, y12, y13, y14, y15, z0, z1, z2, z3, z4, z5, z6, z7, z8, z9, z10, z11, z12, z13, z14, z15, zf⟩ := HZ2.out.any
    have hz := stored_pv HZ2.out HB2.out (by omega) zeroP
    simp only [setPv, zeroP, nilV] at hz
    have HZZ := hidden hz
    clear hz hw3
    go_wp2
    exact ret_pv (g := w.heap.size + 1) rfl rfl rfl rfl HZZ.out.1 ⟨zeroP, rfl, HZZ.out.2, Or.inr ⟨HE.out, rfl⟩⟩
end Go.Proofs.YtbpmanbpmlkmnaaGreatDoor

namespace Go.Proofs.YtbpmanbpmlkmnaaGreatDoor
open Go.RowKit
set_option linter.unusedVariables false

theorem reader_42 (p : Option Addr) (n c : Nat) (w : World) :
    Calls Tryz.prog 19 #[.slice p n c, .int .i64 42] w fun e w' => e = .returned (.func (.func 47) #[.slice p n c] #[]) ∧ w = w' := by
  go_enter Tryz.func19, Tryz.ntmps19
  go_wp2
  go_ret
  exact ⟨rfl, rfl⟩

set_option maxHeartbeats 1600000 in
set_option maxRecDepth 100000 in
theorem pparse_42 (p : Option Addr) (n c : Nat) (xs : List Int) (cr : Bool) (E : Int) (G : Gd) (w : World) (h : Byt w p n c xs) (HRD : ∀ w, Byt w p n c xs → Calls Tryz.prog 47 #[.slice p n c] w (ReadPv w E (fun w' x => G.ok w.heap.size w' x))) :
    Calls Tryz.prog 10 #[.agg #[.int .i64 42, .bool cr, .slice p n c]] w (ParsedV w 42 E G) := by
  have HX := hidden ((h.alloc (.cells #[.int .i64 42, .bool cr, .slice p n c] 27)).alloc (.cells #[.int .i64 0, .slice none 0 0, .int .i64 0, .slice none 0 0, .int .i64 0, .slice none 0 0, .int .i64 0, .slice none 0 0, .int .i64 0, .slice none 0 0, .int .i64 0, .slice none 0 0, .int .i64 0, .slice none 0 0, .slice none 0 0, .slice none 0 0] 45))
  have HB := hidden (((Below.refl w.heap.size w).alloc (Nat.le_refl _) (.cells #[.int .i64 42, .bool cr, .slice p n c] 27)).alloc (by simp) (.cells #[.int .i64 0, .slice none 0 0, .int .i64 0, .slice none 0 0, .int .i64 0, .slice none 0 0, .int .i64 0, .slice none 0 0, .int .i64 0, .slice none 0 0, .int .i64 0, .slice none 0 0, .int .i64 0, .slice none 0 0, .slice none 0 0, .slice none 0 0] 45))
  have HZ : Hid (PvIn ((w.alloc (.cells #[.int .i64 42, .bool cr, .slice p n c] 27)).alloc (.cells #[.int .i64 0, .slice none 0 0, .int .i64 0, .slice none 0 0, .int .i64 0, .slice none 0 0, .int .i64 0, .slice none 0 0, .int .i64 0, .slice none 0 0, .int .i64 0, .slice none 0 0, .int .i64 0, .slice none 0 0, .slice none 0 0, .slice none 0 0] 45)) (w.heap.size + 1) zeroP) := hidden (by
    have := PvIn.new (w.alloc (.cells #[.int .i64 42, .bool cr, .slice p n c] 27)) zeroP 45
    simpa [zeroP, nilV] using this)
  have HW0 := hidden (show ((w.alloc (.cells #[.int .i64 42, .bool cr, .slice p n c] 27)).alloc (.cells #[.int .i64 0, .slice none 0 0, .int .i64 0, .slice none 0 0, .int .i64 0, .slice none 0 0, .int .i64 0, .slice none 0 0, .int .i64 0, .slice none 0 0, .int .i64 0, .slice none 0 0, .int .i64 0, .slice none 0 0, .slice none 0 0, .slice none 0 0] 45)).cell? ⟨w.heap.size, 0, none⟩ = some (.int .i64 42) by go_simp)
  have HSZ := hidden (show ((w.alloc (.cells #[.int .i64 42, .bool cr, .slice p n c] 27)).alloc (.cells #[.int .i64 0, .slice none 0 0, .int .i64 0, .slice none 0 0, .int .i64 0, .slice none 0 0, .int .i64 0, .slice none 0 0, .int .i64 0, .slice none 0 0, .int .i64 0, .slice none 0 0, .int .i64 0, .slice none 0 0, .slice none 0 0, .slice none 0 0] 45)).heap.size = w.heap.size + 1 + 1 by simp)
  have HR := hidden HRD
  clear h HRD
  go_enter Tryz.func10, Tryz.ntmps10
  go_upto_region 3 with (first
    | (go_at_call 19; (with_reducible refine (reader_42 _ _ _ _).mono ?_); rintro e w' ⟨rfl, rfl⟩)
    | (go_at_call 47; (with_reducible refine (HR.out _ HX.out).mono ?_); rintro e w2 ⟨x, rfl, hb2, hgood⟩; have HBA := hidden (HB.out.trans (hb2.mono HB.out.size)); have HZA := hidden (HZ.out.below hb2); have HGO := hidden hgood; have HDA := hidden (cell_below hb2 _ _ HW0.out); have d0 := cell_below ((Below.refl _ w2).alloc (Nat.le_refl _) (.cells #[.int .i64 x.t, .slice x.pr.p x.pr.n x.pr.c, .int .i64 x.eg, .slice x.ed.p x.ed.n x.ed.c, .int .i64 x.ik, .slice x.id.p x.id.n x.id.c, .int .i64 x.am, .slice x.ad.p x.ad.n x.ad.c, .int .i64 x.np, .slice x.ns.p x.ns.n x.ns.c, .int .i64 x.nt, .slice x.nd.p x.nd.n x.nd.c, .int .i64 x.dp, .slice x.ds.p x.ds.n x.ds.c, .slice x.se.p x.se.n x.se.c, .slice x.da.p x.da.n x.da.c] 45)) _ _ HDA.out; have HSB := hidden hb2.size; clear hb2 hgood)
    | fail)
  have hsb := HSB.out
  rw [HSZ.out] at hsb
  have hne1 : ¬ w2.heap.size = w.heap.size + 1 := by omega
  have hne2 : ¬ w.heap.size + 1 = w2.heap.size := by omega
  by_cases hE : E = 0
  · subst hE
    have hk3 := PvIn.new w2 { x with t := 42 } 45
    have hz3 := HZA.out.alloc (.cells #[.int .i64 (Pv.mk 42 x.pr x.eg x.ed x.ik x.id x.am x.ad x.np x.ns x.nt x.nd x.dp x.ds x.se x.da).t, .slice (Pv.mk 42 x.pr x.eg x.ed x.ik x.id x.am x.ad x.np x.ns x.nt x.nd x.dp x.ds x.se x.da).pr.p (Pv.mk 42 x.pr x.eg x.ed x.ik x.id x.am x.ad x.np x.ns x.nt x.nd x.dp x.ds x.se x.da).pr.n (Pv.mk 42 x.pr x.eg x.ed x.ik x.id x.am x.ad x.np x.ns x.nt x.nd x.dp x.ds x.se x.da).pr.c, .int .i64 (Pv.mk 42 x.pr x.eg x.ed x.ik x.id x.am x.ad x.np x.ns x.nt x.nd x.dp x.ds x.se x.da).eg, .slice (Pv.mk 42 x.pr x.eg x.ed x.ik x.id x.am x.ad x.np x.ns x.nt x.nd x.dp x.ds x.se x.da).ed.p (Pv.mk 42 x.pr x.eg x.ed x.ik x.id x.am x.ad x.np x.ns x.nt x.nd x.dp x.ds x.se x.da).ed.n (Pv.mk 42 x.pr x.eg x.ed x.ik x.id x.am x.ad x.np x.ns x.nt x.nd x.dp x.ds x.se x.da).ed.c, .int .i64 (Pv.mk 42 x.pr x.eg x.ed x.ik x.id x.am x.ad x.np x.ns x.nt x.nd x.dp x.ds x.se x.da).ik, .slice (Pv.mk 42 x.pr x.eg x.ed x.ik x.id x.am x.ad x.np x.ns x.nt x.nd x.dp x.ds x.se x.da).id.p (Pv.mk 42 x.pr x.eg x.ed x.ik x.id x.am x.ad x.np x.ns x.nt x.nd x.dp x.ds x.se x.da).id.n (Pv.mk 42 x.pr x.eg x.ed x.ik x.id x.am x.ad x.np x.ns x.nt x.nd x.dp x.ds x.se x.da).id.c, .int .i64 (Pv.mk 42 x.pr x.eg x.ed x.ik x.id x.am x.ad x.np x.ns x.nt x.nd x.dp x.ds x.se x.da).am, .slice (Pv.mk 42 x.pr x.eg x.ed x.ik x.id x.am x.ad x.np x.ns x.nt x.nd x.dp x.ds x.se x.da).ad.p (Pv.mk 42 x.pr x.eg x.ed x.ik x.id x.am x.ad x.np x.ns x.nt x.nd x.dp x.ds x.se x.da).ad.n (Pv.mk 42 x.pr x.eg x.ed x.ik x.id x.am x.ad x.np x.ns x.nt x.nd x.dp x.ds x.se x.da).ad.c, .int .i64 (Pv.mk 42 x.pr x.eg x.ed x.ik x.id x.am x.ad x.np x.ns x.nt x.nd x.dp x.ds x.se x.da).np, .slice (Pv.mk 42 x.pr x.eg x.ed x.ik x.id x.am x.ad x.np x.ns x.nt x.nd x.dp x.ds x.se x.da).ns.p (Pv.mk 42 x.pr x.eg x.ed x.ik x.id x.am x.ad x.np x.ns x.nt x.nd x.dp x.ds x.se x.da).ns.n (Pv.mk 42 x.pr x.eg x.ed x.ik x.id x.am x.ad x.np x.ns x.nt x.nd x.dp x.ds x.se x.da).ns.c, .int .i64 (Pv.mk 42 x.pr x.eg x.ed x.ik x.id x.am x.ad x.np x.ns x.nt x.nd x.dp x.ds x.se x.da).nt, .slice (Pv.mk 42 x.pr x.eg x.ed x.ik x.id x.am x.ad x.np x.ns x.nt x.nd x.dp x.ds x.se x.da).nd.p (Pv.mk 42 x.pr x.eg x.ed x.ik x.id x.am x.ad x.np x.ns x.nt x.nd x.dp x.ds x.se x.da).nd.n (Pv.mk 42 x.pr x.eg x.ed x.ik x.id x.am x.ad x.np x.ns x.nt x.nd x.dp x.ds x.se x.da).nd.c, .int .i64 (Pv.mk 42 x.pr x.eg x.ed x.ik x.id x.am x.ad x.np x.ns x.nt x.nd x.dp x.ds x.se x.da).dp, .slice (Pv.mk 42 x.pr x.eg x.ed x.ik x.id x.am x.ad x.np x.ns x.nt x.nd x.dp x.ds x.se x.da).ds.p (Pv.mk 42 x.pr x.eg x.ed x.ik x.id x.am x.ad x.np x.ns x.nt x.nd x.dp x.ds x.se x.da).ds.n (Pv.mk 42 x.pr x.eg x.ed x.ik x.id x.am x.ad x.np x.ns x.nt x.nd x.dp x.ds x.se x.da).ds.c, .slice (Pv.mk 42 x.pr x.eg x.ed x.ik x.id x.am x.ad x.np x.ns x.nt x.nd x.dp x.ds x.se x.da).se.p (Pv.mk 42 x.pr x.eg x.ed x.ik x.id x.am x.ad x.np x.ns x.nt x.nd x.dp x.ds x.se x.da).se.n (Pv.mk 42 x.pr x.eg x.ed x.ik x.id x.am x.ad x.np x.ns x.nt x.nd x.dp x.ds x.se x.da).se.c, .slice (Pv.mk 42 x.pr x.eg x.ed x.ik x.id x.am x.ad x.np x.ns x.nt x.nd x.dp x.ds x.se x.da).da.p (Pv.mk 42 x.pr x.eg x.ed x.ik x.id x.am x.ad x.np x.ns x.nt x.nd x.dp x.ds x.se x.da).da.n (Pv.mk 42 x.pr x.eg x.ed x.ik x.id x.am x.ad x.np x.ns x.nt x.nd x.dp x.ds x.se x.da).da.c] 45)
    have hb3 := HBA.out.alloc HBA.out.size (.cells #[.int .i64 (Pv.mk 42 x.pr x.eg x.ed x.ik x.id x.am x.ad x.np x.ns x.nt x.nd x.dp x.ds x.se x.da).t, .slice (Pv.mk 42 x.pr x.eg x.ed x.ik x.id x.am x.ad x.np x.ns x.nt x.nd x.dp x.ds x.se x.da).pr.p (Pv.mk 42 x.pr x.eg x.ed x.ik x.id x.am x.ad x.np x.ns x.nt x.nd x.dp x.ds x.se x.da).pr.n (Pv.mk 42 x.pr x.eg x.ed x.ik x.id x.am x.ad x.np x.ns x.nt x.nd x.dp x.ds x.se x.da).pr.c, .int .i64 (Pv.mk 42 x.pr x.eg x.ed x.ik x.id x.am x.ad x.np x.ns x.nt x.nd x.dp x.ds x.se x.da).eg, .slice (Pv.mk 42 x.pr x.eg x.ed x.ik x.id x.am x.ad x.np x.ns x.nt x.nd x.dp x.ds x.se x.da).ed.p (Pv.mk 42 x.pr x.eg x.ed x.ik x.id x.am x.ad x.np x.ns x.nt x.nd x.dp x.ds x.se x.da).ed.n (Pv.mk 42 x.pr x.eg x.ed x.ik x.id x.am x.ad x.np x.ns x.nt x.nd x.dp x.ds x.se x.da).ed.c, .int .i64 (Pv.mk 42 x.pr x.eg x.ed x.ik x.id x.am x.ad x.np x.ns x.nt x.nd x.dp x.ds x.se x.da).ik, .slice (Pv.mk 42 x.pr x.eg x.ed x.ik x.id x.am x.ad x.np x.ns x.nt x.nd x.dp x.ds x.se x.da).id.p (Pv.mk 42 x.pr x.eg x.ed x.ik x.id x.am x.ad x.np x.ns x.nt x.nd x.dp x.ds x.se x.da).id.n (Pv.mk 42 x.pr x.eg x.ed x.ik x.id x.am x.ad x.np x.ns x.nt x.nd x.dp x.ds x.se x.da).id.c, .int .i64 (Pv.mk 42 x.pr x.eg x.ed x.ik x.id x.am x.ad x.np x.ns x.nt x.nd x.dp x.ds x.se x.da).am, .slice (Pv.mk 42 x.pr x.eg x.ed x.ik x.id x.am x.ad x.np x.ns x.nt x.nd x.dp x.ds x.se x.da).ad.p (Pv.mk 42 x.pr x.eg x.ed x.ik x.id x.am x.ad x.np x.ns x.nt x.nd x.dp x.ds x.se x.da).ad.n (Pv.mk 42 x.pr x.eg x.ed x.ik x.id x.am x.ad x.np x.ns x.nt x.nd x.dp x.ds x.se x.da).ad.c, .int .i64 (Pv.mk 42 x.pr x.eg x.ed x.ik x.id x.am x.ad x.np x.ns x.nt x.nd x.dp x.ds x.se x.da).np, .slice (Pv.mk 42 x.pr x.eg x.ed x.ik x.id x.am x.ad x.np x.ns x.nt x.nd x.dp x.ds x.se x.da).ns.p (Pv.mk 42 x.pr x.eg x.ed x.ik x.id x.am x.ad x.np x.ns x.nt x.nd x.dp x.ds x.se x.da).ns.n (Pv.mk 42 x.pr x.eg x.ed x.ik x.id x.am x.ad x.np x.ns x.nt x.nd x.dp x.ds x.se x.da).ns.c, .int .i64 (Pv.mk 42 x.pr x.eg x.ed x.ik x.id x.am x.ad x.np x.ns x.nt x.nd x.dp x.ds x.se x.da).nt, .slice (Pv.mk 42 x.pr x.eg x.ed x.ik x.id x.am x.ad x.np x.ns x.nt x.nd x.dp x.ds x.se x.da).nd.p (Pv.mk 42 x.pr x.eg x.ed x.ik x.id x.am x.ad x.np x.ns x.nt x.nd x.dp x.ds x.se x.da).nd.n (Pv.mk 42 x.pr x.eg x.ed x.ik x.id x.am x.ad x.np x.ns x.nt x.nd x.dp x.ds x.se x.da).nd.c, .int .i64 (Pv.mk 42 x.pr x.eg x.ed x.ik x.id x.am x.ad x.np x.ns x.nt x.nd x.dp x.ds x.se x.da).dp, .slice (Pv.mk 42 x.pr x.eg x.ed x.ik x.id x.am x.ad x.np x.ns x.nt x.nd x.dp x.ds x.se x.da).ds.p (Pv.mk 42 x.pr x.eg x.ed x.ik x.id x.am x.ad x.np x.ns x.nt x.nd x.dp x.ds x.se x.da).ds.n (Pv.mk 42 x.pr x.eg x.ed x.ik x.id x.am x.ad x.np x.ns x.nt x.nd x.dp x.ds x.se x.da).ds.c, .slice (Pv.mk 42 x.pr x.eg x.ed x.ik x.id x.am x.ad x.np x.ns x.nt x.nd x.dp x.ds x.se x.da).se.p (Pv.mk 42 x.pr x.eg x.ed x.ik x.id x.am x.ad x.np x.ns x.nt x.nd x.dp x.ds x.se x.da).se.n (Pv.mk 42 x.pr x.eg x.ed x.ik x.id x.am x.ad x.np x.ns x.nt x.nd x.dp x.ds x.se x.da).se.c, .slice (Pv.mk 42 x.pr x.eg x.ed x.ik x.id x.am x.ad x.np x.ns x.nt x.nd x.dp x.ds x.se x.da).da.p (Pv.mk 42 x.pr x.eg x.ed x.ik x.id x.am x.ad x.np x.ns x.nt x.nd x.dp x.ds x.se x.da).da.n (Pv.mk 42 x.pr x.eg x.ed x.ik x.id x.am x.ad x.np x.ns x.nt x.nd x.dp x.ds x.se x.da).da.c] 45)
    have hg3 := G.keep (HGO.out rfl) (fun a v ha hc => cell_below ((Below.refl _ w2).alloc (Nat.le_refl _) (.cells #[.int .i64 (Pv.mk 42 x.pr x.eg x.ed x.ik x.id x.am x.ad x.np x.ns x.nt x.nd x.dp x.ds x.se x.da).t, .slice (Pv.mk 42 x.pr x.eg x.ed x.ik x.id x.am x.ad x.np x.ns x.nt x.nd x.dp x.ds x.se x.da).pr.p (Pv.mk 42 x.pr x.eg x.ed x.ik x.id x.am x.ad x.np x.ns x.nt x.nd x.dp x.ds x.se x.da).pr.n (Pv.mk 42 x.pr x.eg x.ed x.ik x.id x.am x.ad x.np x.ns x.nt x.nd x.dp x.ds x.se x.da).pr.c, .int .i64 (Pv.mk 42 x.pr x.eg x.ed x.ik x.id x.am x.ad x.np x.ns x.nt x.nd x.dp x.ds x.se x.da).eg, .slice (Pv.mk 42 x.pr x.eg x.ed x.ik x.id x.am x.ad x.np x.ns x.nt x.nd x.dp x.ds x.se x.da).ed.p (Pv.mk 42 x.pr x.eg x.ed x.ik x.id x.am x.ad x.np x.ns x.nt x.nd x.dp x.ds x.se x.da).ed.n (Pv.mk 42 x.pr x.eg x.ed x.ik x.id x.am x.ad x.np x.ns x.nt x.nd x.dp x.ds x.se x.da).ed.c, .int .i64 (Pv.mk 42 x.pr x.eg x.ed x.ik x.id x.am x.ad x.np x.ns x.nt x.nd x.dp x.ds x.se x.da).ik, .slice (Pv.mk 42 x.pr x.eg x.ed x.ik x.id x.am x.ad x.np x.ns x.nt x.nd x.dp x.ds x.se x.da).id.p (Pv.mk 42 x.pr x.eg x.ed x.ik x.id x.am x.ad x.np x.ns x.nt x.nd x.dp x.ds x.se x.da).id.n (Pv.mk 42 x.pr x.eg x.ed x.ik x.id x.am x.ad x.np x.ns x.nt x.nd x.dp x.ds x.se x.da).id.c, .int .i64 (Pv.mk 42 x.pr x.eg x.ed x.ik x.id x.am x.ad x.np x.ns x.nt x.nd x.dp x.ds x.se x.da).am, .slice (Pv.mk 42 x.pr x.eg x.ed x.ik x.id x.am x.ad x.np x.ns x.nt x.nd x.dp x.ds x.se x.da).ad.p (Pv.mk 42 x.pr x.eg x.ed x.ik x.id x.am x.ad x.np x.ns x.nt x.nd x.dp x.ds x.se x.da).ad.n (Pv.mk 42 x.pr x.eg x.ed x.ik x.id x.am x.ad x.np x.ns x.nt x.nd x.dp x.ds x.se x.da).ad.c, .int .i64 (Pv.mk 42 x.pr x.eg x.ed x.ik x.id x.am x.ad x.np x.ns x.nt x.nd x.dp x.ds x.se x.da).np, .slice (Pv.mk 42 x.pr x.eg x.ed x.ik x.id x.am x.ad x.np x.ns x.nt x.nd x.dp x.ds x.se x.da).ns.p (Pv.mk 42 x.pr x.eg x.ed x.ik x.id x.am x.ad x.np x.ns x.nt x.nd x.dp x.ds x.se x.da).ns.n (Pv.mk 42 x.pr x.eg x.ed x.ik x.id x.am x.ad x.np x.ns x.nt x.nd x.dp x.ds x.se x.da).ns.c, .int .i64 (Pv.mk 42 x.pr x.eg x.ed x.ik x.id x.am x.ad x.np x.ns x.nt x.nd x.dp x.ds x.se x.da).nt, .slice (Pv.mk 42 x.pr x.eg x.ed x.ik x.id x.am x.ad x.np x.ns x.nt x.nd x.dp x.ds x.se x.da).nd.p (Pv.mk 42 x.pr x.eg x.ed x.ik x.id x.am x.ad x.np x.ns x.nt x.nd x.dp x.ds x.se x.da).nd.n (Pv.mk 42 x.pr x.eg x.ed x.ik x.id x.am x.ad x.np x.ns x.nt x.nd x.dp x.ds x.se x.da).nd.c, .int .i64 (Pv.mk 42 x.pr x.eg x.ed x.ik x.id x.am x.ad x.np x.ns x.nt x.nd x.dp x.ds x.se x.da).dp, .slice (Pv.mk 42 x.pr x.eg x.ed x.ik x.id x.am x.ad x.np x.ns x.nt x.nd x.dp x.ds x.se x.da).ds.p (Pv.mk 42 x.pr x.eg x.ed x.ik x.id x.am x.ad x.np x.ns x.nt x.nd x.dp x.ds x.se x.da).ds.n (Pv.mk 42 x.pr x.eg x.ed x.ik x.id x.am x.ad x.np x.ns x.nt x.nd x.dp x.ds x.se x.da).ds.c, .slice (Pv.mk 42 x.pr x.eg x.ed x.ik x.id x.am x.ad x.np x.ns x.nt x.nd x.dp x.ds x.se x.da).se.p (Pv.mk 42 x.pr x.eg x.ed x.ik x.id x.am x.ad x.np x.ns x.nt x.nd x.dp x.ds x.se x.da).se.n (Pv.mk 42 x.pr x.eg x.ed x.ik x.id x.am x.ad x.np x.ns x.nt x.nd x.dp x.ds x.se x.da).se.c, .slice (Pv.mk 42 x.pr x.eg x.ed x.ik x.id x.am x.ad x.np x.ns x.nt x.nd x.dp x.ds x.se x.da).da.p (Pv.mk 42 x.pr x.eg x.ed x.ik x.id x.am x.ad x.np x.ns x.nt x.nd x.dp x.ds x.se x.da).da.n (Pv.mk 42 x.pr x.eg x.ed x.ik x.id x.am x.ad x.np x.ns x.nt x.nd x.dp x.ds x.se x.da).da.c] 45)) _ _ hc)
    simp only at hk3 hz3 hb3 hg3
    have HK3 := hidden hk3
    have HZ3 := hidden hz3
    have HB3 := hidden hb3
    have HG3 := hidden hg3
    clear hk3 hz3 hb3 hg3 HGO HZA HBA
    go_upto_region 6 with fail
    clear d0
    generalize hw3 : w2.alloc (.cells #[.int .i64 42, .slice x.pr.p x.pr.n x.pr.c, .int .i64 x.eg, .slice x.ed.p x.ed.n x.ed.c, .int .i64 x.ik, .slice x.id.p x.id.n x.id.c, .int .i64 x.am, .slice x.ad.p x.ad.n x.ad.c, .int .i64 x.np, .slice x.ns.p x.ns.n x.ns.c, .int .i64 x.nt, .slice x.nd.p x.nd.n x.nd.c, .int .i64 x.dp, .slice x.ds.p x.ds.n x.ds.c, .slice x.se.p x.se.n x.se.c, .slice x.da.p x.da.n x.da.c] 45) = w3 at *
    generalize w2.heap.size = g5 at *
    clear hw3
    obtain ⟨k0, k1, k2, k3, k4, k5, k6, k7, k8, k9, k10, k11, k12, k13, k14, k15, kfr⟩ := HK3.out
    obtain ⟨y0, y1, y2, y3, y4, y5, y6, y7, y8, y9, y10, y11, y12, y13, y14, y15, z0, z1, z2, z3, z4, z5, z6, z7, z8, z9, z10, z11, z12, z13, z14, z15, zf⟩ := HZ3.out.any
    have hz := stored_pv HZ3.out HB3.out (by omega) { x with t := 42 }
    have hgd := (G.ty 42 (G.keep HG3.out (fun a v ha hc => (setPv_grown w3 (w.heap.size + 1) { x with t := 42 }).cell hc (by rw [HSZ.out] at ha; simp; omega))))
    simp only [setPv] at hz hgd
    have HZZ := hidden hz
    have HGG := hidden (G.mono hgd (by rw [HSZ.out]; omega : w.heap.size ≤ _))
    clear hz hgd
    go_wp2
    exact ret_pv (g := w.heap.size + 1) rfl rfl rfl rfl HZZ.out.1 ⟨_, rfl, HZZ.out.2, Or.inl ⟨rfl, rfl, HGG.out⟩⟩
  · have hE' : (E != 0) = true := by simpa using hE
    have HE := hidden hE
    clear hE HGO
    have HZ2 := hidden (HZA.out.alloc (.cells #[.int .i64 x.t, .slice x.pr.p x.pr.n x.pr.c, .int .i64 x.eg, .slice x.ed.p x.ed.n x.ed.c, .int .i64 x.ik, .slice x.id.p x.id.n x.id.c, .int .i64 x.am, .slice x.ad.p x.ad.n x.ad.c, .int .i64 x.np, .slice x.ns.p x.ns.n x.ns.c, .int .i64 x.nt, .slice x.nd.p x.nd.n x.nd.c, .int .i64 x.dp, .slice x.ds.p x.ds.n x.ds.c, .slice x.se.p x.se.n x.se.c, .slice x.da.p x.da.n x.da.c] 45))
    have HB2 := hidden (HBA.out.alloc HBA.out.size (.cells #[.int .i64 x.t, .slice x.pr.p x.pr.n x.pr.c, .int .i64 x.eg, .slice x.ed.p x.ed.n x.ed.c, .int .i64 x.ik, .slice x.id.p x.id.n x.id.c, .int .i64 x.am, .slice x.ad.p x.ad.n x.ad.c, .int .i64 x.np, .slice x.ns.p x.ns.n x.ns.c, .int .i64 x.nt, .slice x.nd.p x.nd.n x.nd.c, .int .i64 x.dp, .slice x.ds.p x.ds.n x.ds.c, .slice x.se.p x.se.n x.se.c, .slice x.da.p x.da.n x.da.c] 45))
    clear HZA HBA
    generalize hw3 : w2.alloc (.cells #[.int .i64 x.t, .slice x.pr.p x.pr.n x.pr.c, .int .i64 x.eg, .slice x.ed.p x.ed.n x.ed.c, .int .i64 x.ik, .slice x.id.p x.id.n x.id.c, .int .i64 x.am, .slice x.ad.p x.ad.n x.ad.c, .int .i64 x.np, .slice x.ns.p x.ns.n x.ns.c, .int .i64 x.nt, .slice x.nd.p x.nd.n x.nd.c, .int .i64 x.dp, .slice x.ds.p x.ds.n x.ds.c, .slice x.se.p x.se.n x.se.c, .slice x.da.p x.da.n x.da.c] 45) = w3 at *
    obtain ⟨y0, y1, y2, y3, y4, y5, y6, y7, y8, y9, y10, y11, y12, y13, y14, y15, z0, z1, z2, z3, z4, z5, z6, z7, z8, z9, z10, z11, z12, z13, z14, z15, zf⟩ := HZ2.out.any
    have hz := stored_pv HZ2.out HB2.out (by omega) zeroP
    simp only [setPv, zeroP, nilV] at hz
    have HZZ := hidden hz
    clear hz hw3
    go_wp2
    exact ret_pv (g := w.heap.size + 1) rfl rfl rfl rfl HZZ.out.1 ⟨zeroP, rfl, HZZ.out.2, Or.inr ⟨HE.out, rfl⟩⟩
end Go.Proofs.YtbpmanbpmlkmnaaGreatDoor

namespace Go.Proofs.YtbpmanbpmlkmnaaGreatDoor
open Go.RowKit
set_option linter.unusedVariables false

theorem reader_43 (p : Option Addr) (n c : Nat) (w : World) :
    Calls Tryz.prog 19 #[.slice p n c, .int .i64 43] w fun e w' => e = .returned (.func (.func 49) #[.slice p n c] #[]) ∧ w = w' := by
  go_enter Tryz.func19, Tryz.ntmps19
  go_wp2
  go_ret
  exact ⟨rfl, rfl⟩

set_option maxHeartbeats 1600000 in
set_option maxRecDepth 100000 in
theorem pparse_43 (p : Option Addr) (n c : Nat) (xs : List Int) (cr : Bool) (E : Int) (G : Gd) (w : World) (h : Byt w p n c xs) (HRD : ∀ w, Byt w p n c xs → Calls Tryz.prog 49 #[.slice p n c] w (ReadPv w E (fun w' x => G.ok w.heap.size w' x))) :
    Calls Tryz.prog 10 #[.agg #[.int .i64 43, .bool cr, .slice p n c]] w (ParsedV w 43 E G) := by
  have HX := hidden ((h.alloc (.cells #[.int .i64 43, .bool cr, .slice p n c] 27)).alloc (.cells #[.int .i64 0, .slice none 0 0, .int .i64 0, .slice none 0 0, .int .i64 0, .slice none 0 0, .int .i64 0, .slice none 0 0, .int .i64 0, .slice none 0 0, .int .i64 0, .slice none 0 0, .int .i64 0, .slice none 0 0, .slice none 0 0, .slice none 0 0] 45))
  have HB := hidden (((Below.refl w.heap.size w).alloc (Nat.le_refl _) (.cells #[.int .i64 43, .bool cr, .slice p n c] 27)).alloc (by simp) (.cells #[.int .i64 0, .slice none 0 0, .int .i64 0, .slice none 0 0, .int .i64 0, .slice none 0 0, .int .i64 0, .slice none 0 0, .int .i64 0, .slice none 0 0, .int .i64 0, .slice none 0 0, .int .i64 0, .slice none 0 0, .slice none 0 0, .slice none 0 0] 45))
  have HZ : Hid (PvIn ((w.alloc (.cells #[.int .i64 43, .bool cr, .slice p n c] 27)).alloc (.cells #[.int .i64 0, .slice none 0 0, .int .i64 0, .slice none 0 0, .int .i64 0, .slice none 0 0, .int .i64 0, .slice none 0 0, .int .i64 0, .slice none 0 0, .int .i64 0, .slice none 0 0, .int .i64 0, .slice none 0 0, .slice none 0 0, .slice none 0 0] 45)) (w.heap.size + 1) zeroP) := hidden (by
    have := PvIn.new (w.alloc (.cells #[.int .i64 43, .bool cr, .slice p n c] 27)) zeroP 45
    simpa [zeroP, nilV] using this)
  have HW0 := hidden (show ((w.alloc (.cells #[.int .i64 43, .bool cr, .slice p n c] 27)).alloc (.cells #[.int .i64 0, .slice none 0 0, .int .i64 0, .slice none 0 0, .int .i64 0, .slice none 0 0, .int .i64 0, .slice none 0 0, .int .i64 0, .slice none 0 0, .int .i64 0, .slice none 0 0, .int .i64 0, .slice none 0 0, .slice none 0 0, .slice none 0 0] 45)).cell? ⟨w.heap.size, 0, none⟩ = some (.int .i64 43) by go_simp)
  have HSZ := hidden (show ((w.alloc (.cells #[.int .i64 43, .bool cr, .slice p n c] 27)).alloc (.cells #[.int .i64 0, .slice none 0 0, .int .i64 0, .slice none 0 0, .int .i64 0, .slice none 0 0, .int .i64 0, .slice none 0 0, .int .i64 0, .slice none 0 0, .int .i64 0, .slice none 0 0, .int .i64 0, .slice none 0 0, .slice none 0 0, .slice none 0 0] 45)).heap.size = w.heap.size + 1 + 1 by simp)
  have HR := hidden HRD
  clear h HRD
  go_enter Tryz.func10, Tryz.ntmps10
  go_upto_region 3 with (first
    | (go_at_call 19; (with_reducible refine (reader_43 _ _ _ _).mono ?_); rintro e w' ⟨rfl, rfl⟩)
    | (go_at_call 49; (with_reducible refine (HR.out _ HX.out).mono ?_); rintro e w2 ⟨x, rfl, hb2, hgood⟩; have HBA := hidden (HB.out.trans (hb2.mono HB.out.size)); have HZA := hidden (HZ.out.below hb2); have HGO := hidden hgood; have HDA := hidden (cell_below hb2 _ _ HW0.out); have d0 := cell_below ((Below.refl _ w2).alloc (Nat.le_refl _) (.cells #[.int .i64 x.t, .slice x.pr.p x.pr.n x.pr.c, .int .i64 x.eg, .slice x.ed.p x.ed.n x.ed.c, .int .i64 x.ik, .slice x.id.p x.id.n x.id.c, .int .i64 x.am, .slice x.ad.p x.ad.n x.ad.c, .int .i64 x.np, .slice x.ns.p x.ns.n x.ns.c, .int .i64 x.nt, .slice x.nd.p x.nd.n x.nd.c, .int .i64 x.dp, .slice x.ds.p x.ds.n x.ds.c, .slice x.se.p x.se.n x.se.c, .slice x.da.p x.da.n x.da.c] 45)) _ _ HDA.out; have HSB := hidden hb2.size; clear hb2 hgood)
    | fail)
  have hsb := HSB.out
  rw [HSZ.out] at hsb
  have hne1 : ¬ w2.heap.size = w.heap.size + 1 := by omega
  have hne2 : ¬ w.heap.size + 1 = w2.heap.size := by omega
  by_cases hE : E = 0
  · subst hE
    have hk3 := PvIn.new w2 { x with t := 43 } 45
    have hz3 := HZA.out.alloc (.cells #[.int .i64 (Pv.mk 43 x.pr x.eg x.ed x.ik x.id x.am x.ad x.np x.ns x.nt x.nd x.dp x.ds x.se x.da).t, .slice (Pv.mk 43 x.pr x.eg x.ed x.ik x.id x.am x.ad x.np x.ns x.nt x.nd x.dp x.ds x.se x.da).pr.p (Pv.mk 43 x.pr x.eg x.ed x.ik x.id x.am x.ad x.np x.ns x.nt x.nd x.dp x.ds x.se x.da).pr.n (Pv.mk 43 x.pr x.eg x.ed x.ik x.id x.am x.ad x.np x.ns x.nt x.nd x.dp x.ds x.se x.da).pr.c, .int .i64 (Pv.mk 43 x.pr x.eg x.ed x.ik x.id x.am x.ad x.np x.ns x.nt x.nd x.dp x.ds x.se x.da).eg, .slice (Pv.mk 43 x.pr x.eg x.ed x.ik x.id x.am x.ad x.np x.ns x.nt x.nd x.dp x.ds x.se x.da).ed.p (Pv.mk 43 x.pr x.eg x.ed x.ik x.id x.am x.ad x.np x.ns x.nt x.nd x.dp x.ds x.se x.da).ed.n (Pv.mk 43 x.pr x.eg x.ed x.ik x.id x.am x.ad x.np x.ns x.nt x.nd x.dp x.ds x.se x.da).ed.c, .int .i64 (Pv.mk 43 x.pr x.eg x.ed x.ik x.id x.am x.ad x.np x.ns x.nt x.nd x.dp x.ds x.se x.da).ik, .slice (Pv.mk 43 x.pr x.eg x.ed x.ik x.id x.am x.ad x.np x.ns x.nt x.nd x.dp x.ds x.se x.da).id.p (Pv.mk 43 x.pr x.eg x.ed x.ik x.id x.am x.ad x.np x.ns x.nt x.nd x.dp x.ds x.se x.da).id.n (Pv.mk 43 x.pr x.eg x.ed x.ik x.id x.am x.ad x.np x.ns x.nt x.nd x.dp x.ds x.se x.da).id.c, .int .i64 (Pv.mk 43 x.pr x.eg x.ed x.ik x.id x.am x.ad x.np x.ns x.nt x.nd x.dp x.ds x.se x.da).am, .slice (Pv.mk 43 x.pr x.eg x.ed x.ik x.id x.am x.ad x.np x.ns x.nt x.nd x.dp x.ds x.se x.da).ad.p (Pv.mk 43 x.pr x.eg x.ed x.ik x.id x.am x.ad x.np x.ns x.nt x.nd x.dp x.ds x.se x.da).ad.n (Pv.mk 43 x.pr x.eg x.ed x.ik x.id x.am x.ad x.np x.ns x.nt x.nd x.dp x.ds x.se x.da).ad.c, .int .i64 (Pv.mk 43 x.pr x.eg x.ed x.ik x.id x.am x.ad x.np x.ns x.nt x.nd x.dp x.ds x.se x.da).np, .slice (Pv.mk 43 x.pr x.eg x.ed x.ik x.id x.am x.ad x.np x.ns x.nt x.nd x.dp x.ds x.se x.da).ns.p (Pv.mk 43 x.pr x.eg x.ed x.ik x.id x.am x.ad x.np x.ns x.nt x.nd x.dp x.ds x.se x.da).ns.n (Pv.mk 43 x.pr x.eg x.ed x.ik x.id x.am x.ad x.np x.ns x.nt x.nd x.dp x.ds x.se x.da).ns.c, .int .i64 (Pv.mk 43 x.pr x.eg x.ed x.ik x.id x.am x.ad x.np x.ns x.nt x.nd x.dp x.ds x.se x.da).nt, .slice (Pv.mk 43 x.pr x.eg x.ed x.ik x.id x.am x.ad x.np x.ns x.nt x.nd x.dp x.ds x.se x.da).nd.p (Pv.mk 43 x.pr x.eg x.ed x.ik x.id x.am x.ad x.np x.ns x.nt x.nd x.dp x.ds x.se x.da).nd.n (Pv.mk 43 x.pr x.eg x.ed x.ik x.id x.am x.ad x.np x.ns x.nt x.nd x.dp x.ds x.se x.da).nd.c, .int .i64 (Pv.mk 43 x.pr x.eg x.ed x.ik x.id x.am x.ad x.np x.ns x.nt x.nd x.dp x.ds x.se x.da).dp, .slice (Pv.mk 43 x.pr x.eg x.ed x.ik x.id x.am x.ad x.np x.ns x.nt x.nd x.dp x.ds x.se x.da).ds.p (Pv.mk 43 x.pr x.eg x.ed x.ik x.id x.am x.ad x.np x.ns x.nt x.nd x.dp x.ds x.se x.da).ds.n (Pv.mk 43 x.pr x.eg x.ed x.ik x.id x.am x.ad x.np x.ns x.nt x.nd x.dp x.ds x.se x.da).ds.c, .slice (Pv.mk 43 x.pr x.eg x.ed x.ik x.id x.am x.ad x.np x.ns x.nt x.nd x.dp x.ds x.se x.da).se.p (Pv.mk 43 x.pr x.eg x.ed x.ik x.id x.am x.ad x.np x.ns x.nt x.nd x.dp x.ds x.se x.da).se.n (Pv.mk 43 x.pr x.eg x.ed x.ik x.id x.am x.ad x.np x.ns x.nt x.nd x.dp x.ds x.se x.da).se.c, .slice (Pv.mk 43 x.pr x.eg x.ed x.ik x.id x.am x.ad x.np x.ns x.nt x.nd x.dp x.ds x.se x.da).da.p (Pv.mk 43 x.pr x.eg x.ed x.ik x.id x.am x.ad x.np x.ns x.nt x.nd x.dp x.ds x.se x.da).da.n (Pv.mk 43 x.pr x.eg x.ed x.ik x.id x.am x.ad x.np x.ns x.nt x.nd x.dp x.ds x.se x.da).da.c] 45)
    have hb3 := HBA.out.alloc HBA.out.size (.cells #[.int .i64 (Pv.mk 43 x.pr x.eg x.ed x.ik x.id x.am x.ad x.np x.ns x.nt x.nd x.dp x.ds x.se x.da).t, .slice (Pv.mk 43 x.pr x.eg x.ed x.ik x.id x.am x.ad x.np x.ns x.nt x.nd x.dp x.ds x.se x.da).pr.p (Pv.mk 43 x.pr x.eg x.ed x.ik x.id x.am x.ad x.np x.ns x.nt x.nd x.dp x.ds x.se x.da).pr.n (Pv.mk 43 x.pr x.eg x.ed x.ik x.id x.am x.ad x.np x.ns x.nt x.nd x.dp x.ds x.se x.da).pr.c, .int .i64 (Pv.mk 43 x.pr x.eg x.ed x.ik x.id x.am x.ad x.np x.ns x.nt x.nd x.dp x.ds x.se x.da).eg, .slice (Pv.mk 43 x.pr x.eg x.ed x.ik x.id x.am x.ad x.np x.ns x.nt x.nd x.dp x.ds x.se x.da).ed.p (Pv.mk 43 x.pr x.eg x.ed x.ik x.id x.am x.ad x.np x.ns x.nt x.nd x.dp x.ds x.se x.da).ed.n (Pv.mk 43 x.pr x.eg x.ed x.ik x.id x.am x.ad x.np x.ns x.nt x.nd x.dp x.ds x.se x.da).ed.c, .int .i64 (Pv.mk 43 x.pr x.eg x.ed x.ik x.id x.am x.ad x.np x.ns x.nt x.nd x.dp x.ds x.se x.da).ik, .slice (Pv.mk 43 x.pr x.eg x.ed x.ik x.id x.am x.ad x.np x.ns x.nt x.nd x.dp x.ds x.se x.da).id.p (Pv.mk 43 x.pr x.eg x.ed x.ik x.id x.am x.ad x.np x.ns x.nt x.nd x.dp x.ds x.se x.da).id.n (Pv.mk 43 x.pr x.eg x.ed x.ik x.id x.am x.ad x.np x.ns x.nt x.nd x.dp x.ds x.se x.da).id.c, .int .i64 (Pv.mk 43 x.pr x.eg x.ed x.ik x.id x.am x.ad x.np x.ns x.nt x.nd x.dp x.ds x.se x.da).am, .slice (Pv.mk 43 x.pr x.eg x.ed x.ik x.id x.am x.ad x.np x.ns x.nt x.nd x.dp x.ds x.se x.da).ad.p (Pv.mk 43 x.pr x.eg x.ed x.ik x.id x.am x.ad x.np x.ns x.nt x.nd x.dp x.ds x.se x.da).ad.n (Pv.mk 43 x.pr x.eg x.ed x.ik x.id x.am x.ad x.np x.ns x.nt x.nd x.dp x.ds x.se x.da).ad.c, .int .i64 (Pv.mk 43 x.pr x.eg x.ed x.ik x.id x.am x.ad x.np x.ns x.nt x.nd x.dp x.ds x.se x.da).np, .slice (Pv.mk 43 x.pr x.eg x.ed x.ik x.id x.am x.ad x.np x.ns x.nt x.nd x.dp x.ds x.se x.da).ns.p (Pv.mk 43 x.pr x.eg x.ed x.ik x.id x.am x.ad x.np x.ns x.nt x.nd x.dp x.ds x.se x.da).ns.n (Pv.mk 43 x.pr x.eg x.ed x.ik x.id x.am x.ad x.np x.ns x.nt x.nd x.dp x.ds x.se x.da).ns.c, .int .i64 (Pv.mk 43 x.pr x.eg x.ed x.ik x.id x.am x.ad x.np x.ns x.nt x.nd x.dp x.ds x.se x.da).nt, .slice (Pv.mk 43 x.pr x.eg x.ed x.ik x.id x.am x.ad x.np x.ns x.nt x.nd x.dp x.ds x.se x.da).nd.p (Pv.mk 43 x.pr x.eg x.ed x.ik x.id x.am x.ad x.np x.ns x.nt x.nd x.dp x.ds x.se x.da).nd.n (Pv.mk 43 x.pr x.eg x.ed x.ik x.id x.am x.ad x.np x.ns x.nt x.nd x.dp x.ds x.se x.da).nd.c, .int .i64 (Pv.mk 43 x.pr x.eg x.ed x.ik x.id x.am x.ad x.np x.ns x.nt x.nd x.dp x.ds x.se x.da).dp, .slice (Pv.mk 43 x.pr x.eg x.ed x.ik x.id x.am x.ad x.np x.ns x.nt x.nd x.dp x.ds x.se x.da).ds.p (Pv.mk 43 x.pr x.eg x.ed x.ik x.id x.am x.ad x.np x.ns x.nt x.nd x.dp x.ds x.se x.da).ds.n (Pv.mk 43 x.pr x.eg x.ed x.ik x.id x.am x.ad x.np x.ns x.nt x.nd x.dp x.ds x.se x.da).ds.c, .slice (Pv.mk 43 x.pr x.eg x.ed x.ik x.id x.am x.ad x.np x.ns x.nt x.nd x.dp x.ds x.se x.da).se.p (Pv.mk 43 x.pr x.eg x.ed x.ik x.id x.am x.ad x.np x.ns x.nt x.nd x.dp x.ds x.se x.da).se.n (Pv.mk 43 x.pr x.eg x.ed x.ik x.id x.am x.ad x.np x.ns x.nt x.nd x.dp x.ds x.se x.da).se.c, .slice (Pv.mk 43 x.pr x.eg x.ed x.ik x.id x.am x.ad x.np x.ns x.nt x.nd x.dp x.ds x.se x.da).da.p (Pv.mk 43 x.pr x.eg x.ed x.ik x.id x.am x.ad x.np x.ns x.nt x.nd x.dp x.ds x.se x.da).da.n (Pv.mk 43 x.pr x.eg x.ed x.ik x.id x.am x.ad x.np x.ns x.nt x.nd x.dp x.ds x.se x.da).da.c] 45)
    have hg3 := G.keep (HGO.out rfl) (fun a v ha hc => cell_below ((Below.refl _ w2).alloc (Nat.le_refl _) (.cells #[.int .i64 (Pv.mk 43 x.pr x.eg x.ed x.ik x.id x.am x.ad x.np x.ns x.nt x.nd x.dp x.ds x.se x.da).t, .slice (Pv.mk 43 x.pr x.eg x.ed x.ik x.id x.am x.ad x.np x.ns x.nt x.nd x.dp x.ds x.se x.da).pr.p (Pv.mk 43 x.pr x.eg x.ed x.ik x.id x.am x.ad x.np x.ns x.nt x.nd x.dp x.ds x.se x.da).pr.n (Pv.mk 43 x.pr x.eg x.ed x.ik x.id x.am x.ad x.np x.ns x.nt x.nd x.dp x.ds x.se x.da).pr.c, .int .i64 (Pv.mk 43 x.pr x.eg x.ed x.ik x.id x.am x.ad x.np x.ns x.nt x.nd x.dp x.ds x.se x.da).eg, .slice (Pv.mk 43 x.pr x.eg x.ed x.ik x.id x.am x.ad x.np x.ns x.nt x.nd x.dp x.ds x.se x.da).ed.p (Pv.mk 43 x.pr x.eg x.ed x.ik x.id x.am x.ad x.np x.ns x.nt x.nd x.dp x.ds x.se x.da).ed.n (Pv.mk 43 x.pr x.eg x.ed x.ik x.id x.am x.ad x.np x.ns x.nt x.nd x.dp x.ds x.se x.da).ed.c, .int .i64 (Pv.mk 43 x.pr x.eg x.ed x.ik x.id x.am x.ad x.np x.ns x.nt x.nd x.dp x.ds x.se x.da).ik, .slice (Pv.mk 43 x.pr x.eg x.ed x.ik x.id x.am x.ad x.np x.ns x.nt x.nd x.dp x.ds x.se x.da).id.p (Pv.mk 43 x.pr x.eg x.ed x.ik x.id x.am x.ad x.np x.ns x.nt x.nd x.dp x.ds x.se x.da).id.n (Pv.mk 43 x.pr x.eg x.ed x.ik x.id x.am x.ad x.np x.ns x.nt x.nd x.dp x.ds x.se x.da).id.c, .int .i64 (Pv.mk 43 x.pr x.eg x.ed x.ik x.id x.am x.ad x.np x.ns x.nt x.nd x.dp x.ds x.se x.da).am, .slice (Pv.mk 43 x.pr x.eg x.ed x.ik x.id x.am x.ad x.np x.ns x.nt x.nd x.dp x.ds x.se x.da).ad.p (Pv.mk 43 x.pr x.eg x.ed x.ik x.id x.am x.ad x.np x.ns x.nt x.nd x.dp x.ds x.se x.da).ad.n (Pv.mk 43 x.pr x.eg x.ed x.ik x.id x.am x.ad x.np x.ns x.nt x.nd x.dp x.ds x.se x.da).ad.c, .int .i64 (Pv.mk 43 x.pr x.eg x.ed x.ik x.id x.am x.ad x.np x.ns x.nt x.nd x.dp x.ds x.se x.da).np, .slice (Pv.mk 43 x.pr x.eg x.ed x.ik x.id x.am x.ad x.np x.ns x.nt x.nd x.dp x.ds x.se x.da).ns.p (Pv.mk 43 x.pr x.eg x.ed x.ik x.id x.am x.ad x.np x.ns x.nt x.nd x.dp x.ds x.se x.da).ns.n (Pv.mk 43 x.pr x.eg x.ed x.ik x.id x.am x.ad x.np x.ns x.nt x.nd x.dp x.ds x.se x.da).ns.c, .int .i64 (Pv.mk 43 x.pr x.eg x.ed x.ik x.id x.am x.ad x.np x.ns x.nt x.nd x.dp x.ds x.se x.da).nt, .slice (Pv.mk 43 x.pr x.eg x.ed x.ik x.id x.am x.ad x.np x.ns x.nt x.nd x.dp x.ds x.se x.da).nd.p (Pv.mk 43 x.pr x.eg x.ed x.ik x.id x.am x.ad x.np x.ns x.nt x.nd x.dp x.ds x.se x.da).nd.n (Pv.mk 43 x.pr x.eg x.ed x.ik x.id x.am x.ad x.np x.ns x.nt x.nd x.dp x.ds x.se x.da).nd.c, .int .i64 (Pv.mk 43 x.pr x.eg x.ed x.ik x.id x.am x.ad x.np x.ns x.nt x.nd x.dp x.ds x.se x.da).dp, .slice (Pv.mk 43 x.pr x.eg x.ed x.ik x.id x.am x.ad x.np x.ns x.nt x.nd x.dp x.ds x.se x.da).ds.p (Pv.mk 43 x.pr x.eg x.ed x.ik x.id x.am x.ad x.np x.ns x.nt x.nd x.dp x.ds x.se x.da).ds.n (Pv.mk 43 x.pr x.eg x.ed x.ik x.id x.am x.ad x.np x.ns x.nt x.nd x.dp x.ds x.se x.da).ds.c, .slice (Pv.mk 43 x.pr x.eg x.ed x.ik x.id x.am x.ad x.np x.ns x.nt x.nd x.dp x.ds x.se x.da).se.p (Pv.mk 43 x.pr x.eg x.ed x.ik x.id x.am x.ad x.np x.ns x.nt x.nd x.dp x.ds x.se x.da).se.n (Pv.mk 43 x.pr x.eg x.ed x.ik x.id x.am x.ad x.np x.ns x.nt x.nd x.dp x.ds x.se x.da).se.c, .slice (Pv.mk 43 x.pr x.eg x.ed x.ik x.id x.am x.ad x.np x.ns x.nt x.nd x.dp x.ds x.se x.da).da.p (Pv.mk 43 x.pr x.eg x.ed x.ik x.id x.am x.ad x.np x.ns x.nt x.nd x.dp x.ds x.se x.da).da.n (Pv.mk 43 x.pr x.eg x.ed x.ik x.id x.am x.ad x.np x.ns x.nt x.nd x.dp x.ds x.se x.da).da.c] 45)) _ _ hc)
    simp only at hk3 hz3 hb3 hg3
    have HK3 := hidden hk3
    have HZ3 := hidden hz3
    have HB3 := hidden hb3
    have HG3 := hidden hg3
    clear hk3 hz3 hb3 hg3 HGO HZA HBA
    go_upto_region 6 with fail
    clear d0
    generalize hw3 : w2.alloc (.cells #[.int .i64 43, .slice x.pr.p x.pr.n x.pr.c, .int .i64 x.eg, .slice x.ed.p x.ed.n x.ed.c, .int .i64 x.ik, .slice x.id.p x.id.n x.id.c, .int .i64 x.am, .slice x.ad.p x.ad.n x.ad.c, .int .i64 x.np, .slice x.ns.p x.ns.n x.ns.c, .int .i64 x.nt, .slice x.nd.p x.nd.n x.nd.c, .int .i64 x.dp, .slice x.ds.p x.ds.n x.ds.c, .slice x.se.p x.se.n x.se.c, .slice x.da.p x.da.n x.da.c] 45) = w3 at *
    generalize w2.heap.size = g5 at *
    clear hw3
    obtain ⟨k0, k1, k2, k3, k4, k5, k6, k7, k8, k9, k10, k11, k12, k13, k14, k15, kfr⟩ := HK3.out
    obtain ⟨y0, y1, y2, y3, y4, y5, y6, y7, y8, y9, y10, y11, y12, y13, y14, y15, z0, z1, z2, z3, z4, z5, z6, z7, z8, z9, z10, z11, z12, z13, z14, z15, zf⟩ := HZ3.out.any
    have hz := stored_pv HZ3.out HB3.out (by omega) { x with t := 43 }
    have hgd := (G.ty 43 (G.keep HG3.out (fun a v ha hc => (setPv_grown w3 (w.heap.size + 1) { x with t := 43 }).cell hc (by rw [HSZ.out] at ha; simp; omega))))
    simp only [setPv] at hz hgd
    have HZZ := hidden hz
    have HGG := hidden (G.mono hgd (by rw [HSZ.out]; omega : w.heap.size ≤ _))
    clear hz hgd
    go_wp2
    exact ret_pv (g := w.heap.size + 1) rfl rfl rfl rfl HZZ.out.1 ⟨_, rfl, HZZ.out.2, Or.inl ⟨rfl, rfl, HGG.out⟩⟩
  · have hE' : (E != 0) = true := by simpa using hE
    have HE := hidden hE
    clear hE HGO
    have HZ2 := hidden (HZA.out.alloc (.cells #[.int .i64 x.t, .slice x.pr.p x.pr.n x.pr.c, .int .i64 x.eg, .slice x.ed.p x.ed.n x.ed.c, .int .i64 x.ik, .slice x.id.p x.id.n x.id.c, .int .i64 x.am, .slice x.ad.p x.ad.n x.ad.c, .int .i64 x.np, .slice x.ns.p x.ns.n x.ns.c, .int .i64 x.nt, .slice x.nd.p x.nd.n x.nd.c, .int .i64 x.dp, .slice x.ds.p x.ds.n x.ds.c, .slice x.se.p x.se.n x.se.c, .slice x.da.p x.da.n x.da.c] 45))
    have HB2 := hidden (HBA.out.alloc HBA.out.size (.cells #[.int .i64 x.t, .slice x.pr.p x.pr.n x.pr.c, .int .i64 x.eg, .slice x.ed.p x.ed.n x.ed.c, .int .i64 x.ik, .slice x.id.p x.id.n x.id.c, .int .i64 x.am, .slice x.ad.p x.ad.n x.ad.c, .int .i64 x.np, .slice x.ns.p x.ns.n x.ns.c, .int .i64 x.nt, .slice x.nd.p x.nd.n x.nd.c, .int .i64 x.dp, .slice x.ds.p x.ds.n x.ds.c, .slice x.se.p x.se.n x.se.c, .slice x.da.p x.da.n x.da.c] 45))
    clear HZA HBA
    generalize hw3 : w2.alloc (.cells #[.int .i64 x.t, .slice x.pr.p x.pr.n x.pr.c, .int .i64 x.eg, .slice x.ed.p x.ed.n x.ed.c, .int .i64 x.ik, .slice x.id.p x.id.n x.id.c, .int .i64 x.am, .slice x.ad.p x.ad.n x.ad.c, .int .i64 x.np, .slice x.ns.p x.ns.n x.ns.c, .int .i64 x.nt, .slice x.nd.p x.nd.n x.nd.c, .int .i64 x.dp, .slice x.ds.p x.ds.n x.ds.c, .slice x.se.p x.se.n x.se.c, .slice x.da.p x.da.n x.da.c] 45) = w3 at *
    obtain ⟨y0, y1, y2, y3, y4, y5, y6, y7, y8, y9, y10, y11, y12, y13, y14, y15, z0, z1, z2, z3, z4, z5, z6, z7, z8, z9, z10, z11, z12, z13, z14, z15, zf⟩ := HZ2.out.any
    have hz := stored_pv HZ2.out HB2.out (by omega) zeroP
    simp only [setPv, zeroP, nilV] at hz
    have HZZ := hidden hz
    clear hz hw3
    go_wp2
    exact ret_pv (g := w.heap.size + 1) rfl rfl rfl rfl HZZ.out.1 ⟨zeroP, rfl, HZZ.out.2, Or.inr ⟨HE.out, rfl⟩⟩
end Go.Proofs.YtbpmanbpmlkmnaaGreatDoor

namespace Go.Proofs.YtbpmanbpmlkmnaaGreatDoor
open Go.RowKit
set_option linter.unusedVariables false

theorem reader_44 (p : Option Addr) (n c : Nat) (w : World) :
    Calls Tryz.prog 19 #[.slice p n c, .int .i64 44] w fun e w' => e = .returned (.func (.func 48) #[.slice p n c] #[]) ∧ w = w' := by
  go_enter Tryz.func19, Tryz.ntmps19
  go_wp2
  go_ret
  exact ⟨rfl, rfl⟩

set_option maxHeartbeats 1600000 in
set_option maxRecDepth 100000 in
theorem pparse_44 (p : Option Addr) (n c : Nat) (xs : List Int) (cr : Bool) (E : Int) (G : Gd) (w : World) (h : Byt w p n c xs) (HRD : ∀ w, Byt w p n c xs → Calls Tryz.prog 48 #[.slice p n c] w (ReadPv w E (fun w' x => G.ok w.heap.size w' x))) :
    Calls Tryz.prog 10 #[.agg #[.int .i64 44, .bool cr, .slice p n c]] w (ParsedV w 44 E G) := by
  have HX := hidden ((h.alloc (.cells #[.int .i64 44, .bool cr, .slice p n c] 27)).alloc (.cells #[.int .i64 0, .slice none 0 0, .int .i64 0, .slice none 0 0, .int .i64 0, .slice none 0 0, .int .i64 0, .slice none 0 0, .int .i64 0, .slice none 0 0, .int .i64 0, .slice none 0 0, .int .i64 0, .slice none 0 0, .slice none 0 0, .slice none 0 0] 45))
  have HB := hidden (((Below.refl w.heap.size w).alloc (Nat.le_refl _) (.cells #[.int .i64 44, .bool cr, .slice p n c] 27)).alloc (by simp) (.cells #[.int .i64 0, .slice none 0 0, .int .i64 0, .slice none 0 0, .int .i64 0, .slice none 0 0, .int .i64 0, .slice none 0 0, .int .i64 0, .slice none 0 0, .int .i64 0, .slice none 0 0, .int .i64 0, .slice none 0 0, .slice none 0 0, .slice none 0 0] 45))
  have HZ : Hid (PvIn ((w.alloc (.cells #[.int .i64 44, .bool cr, .slice p n c] 27)).alloc (.cells #[.int .i64 0, .slice none 0 0, .int .i64 0, .slice none 0 0, .int .i64 0, .slice none 0 0, .int .i64 0, .slice none 0 0, .int .i64 0, .slice none 0 0, .int .i64 0, .slice none 0 0, .int .i64 0, .slice none 0 0, .slice none 0 0, .slice none 0 0] 45)) (w.heap.size + 1) zeroP) := hidden (by
    have := PvIn.new (w.alloc (.cells #[.int .i64 44, .bool cr, .slice p n c] 27)) zeroP 45
    simpa [zeroP, nilV] using this)
  have HW0 := hidden (show ((w.alloc (.cells #[.int .i64 44, .bool cr, .slice p n c] 27)).alloc (.cells #[.int .i64 0, .slice none 0 0, .int .i64 0, .slice none 0 0, .int .i64 0, .slice none 0 0, .int .i64 0, .slice none 0 0, .int .i64 0, .slice none 0 0, .int .i64 0, .slice none 0 0, .int .i64 0, .slice none 0 0, .slice none 0 0, .slice none 0 0] 45)).cell? ⟨w.heap.size, 0, none⟩ = some (.int .i64 44) by go_simp)
  have HSZ := hidden (show ((w.alloc (.cells #[.int .i64 44, .bool cr, .slice p n c] 27)).alloc (.cells #[.int .i64 0, .slice none 0 0, .int .i64 0, .slice none 0 0, .int .i64 0, .slice none 0 0, .int .i64 0, .slice none 0 0, .int .i64 0, .slice none 0 0, .int .i64 0, .slice none 0 0, .int .i64 0, .slice none 0 0, .slice none 0 0, .slice none 0 0] 45)).heap.size = w.heap.size + 1 + 1 by simp)
  have HR := hidden HRD
  clear h HRD
  go_enter Tryz.func10, Tryz.ntmps10
  go_upto_region 3 with (first
    | (go_at_call 19; (with_reducible refine (reader_44 _ _ _ _).mono ?_); rintro e w' ⟨rfl, rfl⟩)
    | (go_at_call 48; (with_reducible refine (HR.out _ HX.out).mono ?_); rintro e w2 ⟨x, rfl, hb2, hgood⟩; have HBA := hidden (HB.out.trans (hb2.mono HB.out.size)); have HZA := hidden (HZ.out.below hb2); have HGO := hidden hgood; have HDA := hidden (cell_below hb2 _ _ HW0.out); have d0 := cell_below ((Below.refl _ w2).alloc (Nat.le_refl _) (.cells #[.int .i64 x.t, .slice x.pr.p x.pr.n x.pr.c, .int .i64 x.eg, .slice x.ed.p x.ed.n x.ed.c, .int .i64 x.ik, .slice x.id.p x.id.n x.id.c, .int .i64 x.am, .slice x.ad.p x.ad.n x.ad.c, .int .i64 x.np, .slice x.ns.p x.ns.n x.ns.c, .int .i64 x.nt, .slice x.nd.p x.nd.n x.nd.c, .int .i64 x.dp, .slice x.ds.p x.ds.n x.ds.c, .slice x.se.p x.se.n x.se.c, .slice x.da.p x.da.n x.da.c] 45)) _ _ HDA.out; have HSB := hidden hb2.size; clear hb2 hgood)
    | fail)
  have hsb := HSB.out
  rw [HSZ.out] at hsb
  have hne1 : ¬ w2.heap.size = w.heap.size + 1 := by omega
  have hne2 : ¬ w.heap.size + 1 = w2.heap.size := by omega
  by_cases hE : E = 0
  · subst hE
    have hk3 := PvIn.new w2 { x with t := 44 } 45
    have hz3 := HZA.out.alloc (.cells #[.int .i64 (Pv.mk 44 x.pr x.eg x.ed x.ik x.id x.am x.ad x.np x.ns x.nt x.nd x.dp x.ds x.se x.da).t, .slice (Pv.mk 44 x.pr x.eg x.ed x.ik x.id x.am x.ad x.np x.ns x.nt x.nd x.dp x.ds x.se x.da).pr.p (Pv.mk 44 x.pr x.eg x.ed x.ik x.id x.am x.ad x.np x.ns x.nt x.nd x.dp x.ds x.se x.da).pr.n (Pv.mk 44 x.pr x.eg x.ed x.ik x.id x.am x.ad x.np x.ns x.nt x.nd x.dp x.ds x.se x.da).pr.c, .int .i64 (Pv.mk 44 x.pr x.eg x.ed x.ik x.id x.am x.ad x.np x.ns x.nt x.nd x.dp x.ds x.se x.da).eg, .slice (Pv.mk 44 x.pr x.eg x.ed x.ik x.id x.am x.ad x.np x.ns x.nt x.nd x.dp x.ds x.se x.da).ed.p (Pv.mk 44 x.pr x.eg x.ed x.ik x.id x.am x.ad x.np x.ns x.nt x.nd x.dp x.ds x.se x.da).ed.n (Pv.mk 44 x.pr x.eg x.ed x.ik x.id x.am x.ad x.np x.ns x.nt x.nd x.dp x.ds x.se x.da).ed.c, .int .i64 (Pv.mk 44 x.pr x.eg x.ed x.ik x.id x.am x.ad x.np x.ns x.nt x.nd x.dp x.ds x.se x.da).ik, .slice (Pv.mk 44 x.pr x.eg x.ed x.ik x.id x.am x.ad x.np x.ns x.nt x.nd x.dp x.ds x.se x.da).id.p (Pv.mk 44 x.pr x.eg x.ed x.ik x.id x.am x.ad x.np x.ns x.nt x.nd x.dp x.ds x.se x.da).id.n (Pv.mk 44 x.pr x.eg x.ed x.ik x.id x.am x.ad x.np x.ns x.nt x.nd x.dp x.ds x.se x.da).id.c, .int .i64 (Pv.mk 44 x.pr x.eg x.ed x.ik x.id x.am x.ad x.np x.ns x.nt x.nd x.dp x.ds x.se x.da).am, .slice (Pv.mk 44 x.pr x.eg x.ed x.ik x.id x.am x.ad x.np x.ns x.nt x.nd x.dp x.ds x.se x.da).ad.p (Pv.mk 44 x.pr x.eg x.ed x.ik x.id x.am x.ad x.np x.ns x.nt x.nd x.dp x.ds x.se x.da).ad.n (Pv.mk 44 x.pr x.eg x.ed x.ik x.id x.am x.ad x.np x.ns x.nt x.nd x.dp x.ds x.se x.da).ad.c, .int .i64 (Pv.mk 44 x.pr x.eg x.ed x.ik x.id x.am x.ad x.np x.ns x.nt x.nd x.dp x.ds x.se x.da).np, .slice (Pv.mk 44 x.pr x.eg x.ed x.ik x.id x.am x.ad x.np x.ns x.nt x.nd x.dp x.ds x.se x.da).ns.p (Pv.mk 44 x.pr x.eg x.ed x.ik x.id x.am x.ad x.np x.ns x.nt x.nd x.dp x.ds x.se x.da).ns.n (Pv.mk 44 x.pr x.eg x.ed x.ik x.id x.am x.ad x.np x.ns x.nt x.nd x.dp x.ds x.se x.da).ns.c, .int .i64 (Pv.mk 44 x.pr x.eg x.ed x.ik x.id x.am x.ad x.np x.ns x.nt x.nd x.dp x.ds x.se x.da).nt, .slice (Pv.mk 44 x.pr x.eg x.ed x.ik x.id x.am x.ad x.np x.ns x.nt x.nd x.dp x.ds x.se x.da).nd.p (Pv.mk 44 x.pr x.eg x.ed x.ik x.id x.am x.ad x.np x.ns x.nt x.nd x.dp x.ds x.se x.da).nd.n (Pv.mk 44 x.pr x.eg x.ed x.ik x.id x.am x.ad x.np x.ns x.nt x.nd x.dp x.ds x.se x.da).nd.c, .int .i64 (Pv.mk 44 x.pr x.eg x.ed x.ik x.id x.am x.ad x.np x.ns x.nt x.nd x.dp x.ds x.se x.da).dp, .slice (Pv.mk 44 x.pr x.eg x.ed x.ik x.id x.am x.ad x.np x.ns x.nt x.nd x.dp x.ds x.se x.da).ds.p (Pv.mk 44 x.pr x.eg x.ed x.ik x.id x.am x.ad x.np x.ns x.nt x.nd x.dp x.ds x.se x.da).ds.n (Pv.mk 44 x.pr x.eg x.ed x.ik x.id x.am x.ad x.np x.ns x.nt x.nd x.dp x.ds x.se x.da).ds.c, .slice (Pv.mk 44 x.pr x.eg x.ed x.ik x.id x.am x.ad x.np x.ns x.nt x.nd x.dp x.ds x.se x.da).se.p (Pv.mk 44 x.pr x.eg x.ed x.ik x.id x.am x.ad x.np x.ns x.nt x.nd x.dp x.ds x.se x.da).se.n (Pv.mk 44 x.pr x.eg x.ed x.ik x.id x.am x.ad x.np x.ns x.nt x.nd x.dp x.ds x.se x.da).se.c, .slice (Pv.mk 44 x.pr x.eg x.ed x.ik x.id x.am x.ad x.np x.ns x.nt x.nd x.dp x.ds x.se x.da).da.p (Pv.mk 44 x.pr x.eg x.ed x.ik x.id x.am x.ad x.np x.ns x.nt x.nd x.dp x.ds x.se x.da).da.n (Pv.mk 44 x.pr x.eg x.ed x.ik x.id x.am x.ad x.np x.ns x.nt x.nd x.dp x.ds x.se x.da).da.c] 45)
    have hb3 := HBA.out.alloc HBA.out.size (.cells #[.int .i64 (Pv.mk 44 x.pr x.eg x.ed x.ik x.id x.am x.ad x.np x.ns x.nt x.nd x.dp x.ds x.se x.da).t, .slice (Pv.mk 44 x.pr x.eg x.ed x.ik x.id x.am x.ad x.np x.ns x.nt x.nd x.dp x.ds x.se x.da).pr.p (Pv.mk 44 x.pr x.eg x.ed x.ik x.id x.am x.ad x.np x.ns x.nt x.nd x.dp x.ds x.se x.da).pr.n (Pv.mk 44 x.pr x.eg x.ed x.ik x.id x.am x.ad x.np x.ns x.nt x.nd x.dp x.ds x.se x.da).pr.c, .int .i64 (Pv.mk 44 x.pr x.eg x.ed x.ik x.id x.am x.ad x.np x.ns x.nt x.nd x.dp x.ds x.se x.da).eg, .slice (Pv.mk 44 x.pr x.eg x.ed x.ik x.id x.am x.ad x.np x.ns x.nt x.nd x.dp x.ds x.se x.da).ed.p (Pv.mk 44 x.pr x.eg x.ed x.ik x.id x.am x.ad x.np x.ns x.nt x.nd x.dp x.ds x.se x.da).ed.n (Pv.mk 44 x.pr x.eg x.ed x.ik x.id x.am x.ad x.np x.ns x.nt x.nd x.dp x.ds x.se x.da).ed.c, .int .i64 (Pv.mk 44 x.pr x.eg x.ed x.ik x.id x.am x.ad x.np x.ns x.nt x.nd x.dp x.ds x.se x.da).ik, .slice (Pv.mk 44 x.pr x.eg x.ed x.ik x.id x.am x.ad x.np x.ns x.nt x.nd x.dp x.ds x.se x.da).id.p (Pv.mk 44 x.pr x.eg x.ed x.ik x.id x.am x.ad x.np x.ns x.nt x.nd x.dp x.ds x.se x.da).id.n (Pv.mk 44 x.pr x.eg x.ed x.ik x.id x.am x.ad x.np x.ns x.nt x.nd x.dp x.ds x.se x.da).id.c, .int .i64 (Pv.mk 44 x.pr x.eg x.ed x.ik x.id x.am x.ad x.np x.ns x.nt x.nd x.dp x.ds x.se x.da).am, .slice (Pv.mk 44 x.pr x.eg x.ed x.ik x.id x.am x.ad x.np x.ns x.nt x.nd x.dp x.ds x.se x.da).ad.p (Pv.mk 44 x.pr x.eg x.ed x.ik x.id x.am x.ad x.np x.ns x.nt x.nd x.dp x.ds x.se x.da).ad.n (Pv.mk 44 x.pr x.eg x.ed x.ik x.id x.am x.ad x.np x.ns x.nt x.nd x.dp x.ds x.se x.da).ad.c, .int .i64 (Pv.mk 44 x.pr x.eg x.ed x.ik x.id x.am x.ad x.np x.ns x.nt x.nd x.dp x.ds x.se x.da).np, .slice (Pv.mk 44 x.pr x.eg x.ed x.ik x.id x.am x.ad x.np x.ns x.nt x.nd x.dp x.ds x.se x.da).ns.p (Pv.mk 44 x.pr x.eg x.ed x.ik x.id x.am x.ad x.np x.ns x.nt x.nd x.dp x.ds x.se x.da).ns.n (Pv.mk 44 x.pr x.eg x.ed x.ik x.id x.am x.ad x.np x.ns x.nt x.nd x.dp x.ds x.se x.da).ns.c, .int .i64 (Pv.mk 44 x.pr x.eg x.ed x.ik x.id x.am x.ad x.np x.ns x.nt x.nd x.dp x.ds x.se x.da).nt, .slice (Pv.mk 44 x.pr x.eg x.ed x.ik x.id x.am x.ad x.np x.ns x.nt x.nd x.dp x.ds x.se x.da).nd.p (Pv.mk 44 x.pr x.eg x.ed x.ik x.id x.am x.ad x.np x.ns x.nt x.nd x.dp x.ds x.se x.da).nd.n (Pv.mk 44 x.pr x.eg x.ed x.ik x.id x.am x.ad x.np x.ns x.nt x.nd x.dp x.ds x.se x.da).nd.c, .int .i64 (Pv.mk 44 x.pr x.eg x.ed x.ik x.id x.am x.ad x.np x.ns x.nt x.nd x.dp x.ds x.se x.da).dp, .slice (Pv.mk 44 x.pr x.eg x.ed x.ik x.id x.am x.ad x.np x.ns x.nt x.nd x.dp x.ds x.se x.da).ds.p (Pv.mk 44 x.pr x.eg x.ed x.ik x.id x.am x.ad x.np x.ns x.nt x.nd x.dp x.ds x.se x.da).ds.n (Pv.mk 44 x.pr x.eg x.ed x.ik x.id x.am x.ad x.np x.ns x.nt x.nd x.dp x.ds x.se x.da).ds.c, .slice (Pv.mk 44 x.pr x.eg x.ed x.ik x.id x.am x.ad x.np x.ns x.nt x.nd x.dp x.ds x.se x.da).se.p (Pv.mk 44 x.pr x.eg x.ed x.ik x.id x.am x.ad x.np x.ns x.nt x.nd x.dp x.ds x.se x.da).se.n (Pv.mk 44 x.pr x.eg x.ed x.ik x.id x.am x.ad x.np x.ns x.nt x.nd x.dp x.ds x.se x.da).se.c, .slice (Pv.mk 44 x.pr x.eg x.ed x.ik x.id x.am x.ad x.np x.ns x.nt x.nd x.dp x.ds x.se x.da).da.p (Pv.mk 44 x.pr x.eg x.ed x.ik x.id x.am x.ad x.np x.ns x.nt x.nd x.dp x.ds x.se x.da).da.n (Pv.mk 44 x.pr x.eg x.ed x.ik x.id x.am x.ad x.np x.ns x.nt x.nd x.dp x.ds x.se x.da).da.c] 45)
    have hg3 := G.keep (HGO.out rfl) (fun a v ha hc => cell_below ((Below.refl _ w2).alloc (Nat.le_refl _) (.cells #[.int .i64 (Pv.mk 44 x.pr x.eg x.ed x.ik x.id x.am x.ad x.np x.ns x.nt x.nd x.dp x.ds x.se x.da).t, .slice (Pv.mk 44 x.pr x.eg x.ed x.ik x.id x.am x.ad x.np x.ns x.nt x.nd x.dp x.ds x.se x.da).pr.p (Pv.mk 44 x.pr x.eg x.ed x.ik x.id x.am x.ad x.np x.ns x.nt x.nd x.dp x.ds x.se x.da).pr.n (Pv.mk 44 x.pr x.eg x.ed x.ik x.id x.am x.ad x.np x.ns x.nt x.nd x.dp x.ds x.se x.da).pr.c, .int .i64 (Pv.mk 44 x.pr x.eg x.ed x.ik x.id x.am x.ad x.np x.ns x.nt x.nd x.dp x.ds x.se x.da).eg, .slice (Pv.mk 44 x.pr x.eg x.ed x.ik x.id x.am x.ad x.np x.ns x.nt x.nd x.dp x.ds x.se x.da).ed.p (Pv.mk 44 x.pr x.eg x.ed x.ik x.id x.am x.ad x.np x.ns x.nt x.nd x.dp x.ds x.se x.da).ed.n (Pv.mk 44 x.pr x.eg x.ed x.ik x.id x.am x.ad x.np x.ns x.nt x.nd x.dp x.ds x.se x.da).ed.c, .int .i64 (Pv.mk 44 x.pr x.eg x.ed x.ik x.id x.am x.ad x.np x.ns x.nt x.nd x.dp x.ds x.se x.da).ik, .slice (Pv.mk 44 x.pr x.eg x.ed x.ik x.id x.am x.ad x.np x.ns x.nt x.nd x.dp x.ds x.se x.da).id.p (Pv.mk 44 x.pr x.eg x.ed x.ik x.id x.am x.ad x.np x.ns x.nt x.nd x.dp x.ds x.se x.da).id.n (Pv.mk 44 x.pr x.eg x.ed x.ik x.id x.am x.ad x.np x.ns x.nt x.nd x.dp x.ds x.se x.da).id.c, .int .i64 (Pv.mk 44 x.pr x.eg x.ed x.ik x.id x.am x.ad x.np x.ns x.nt x.nd x.dp x.ds x.se x.da).am, .slice (Pv.mk 44 x.pr x.eg x.ed x.ik x.id x.am x.ad x.np x.ns x.nt x.nd x.dp x.ds x.se x.da).ad.p (Pv.mk 44 x.pr x.eg x.ed x.ik x.id x.am x.ad x.np x.ns x.nt x.nd x.dp x.ds x.se x.da).ad.n (Pv.mk 44 x.pr x.eg x.ed x.ik x.id x.am x.ad x.np x.ns x.nt x.nd x.dp x.ds x.se x.da).ad.c, .int .i64 (Pv.mk 44 x.pr x.eg x.ed x.ik x.id x.am x.ad x.np x.ns x.nt x.nd x.dp x.ds x.se x.da).np, .slice (Pv.mk 44 x.pr x.eg x.ed x.ik x.id x.am x.ad x.np x.ns x.nt x.nd x.dp x.ds x.se x.da).ns.p (Pv.mk 44 x.pr x.eg x.ed x.ik x.id x.am x.ad x.np x.ns x.nt x.nd x.dp x.ds x.se x.da).ns.n (Pv.mk 44 x.pr x.eg x.ed x.ik x.id x.am x.ad x.np x.ns x.nt x.nd x.dp x.ds x.se x.da).ns.c, .int .i64 (Pv.mk 44 x.pr x.eg x.ed x.ik x.id x.am x.ad x.np x.ns x.nt x.nd x.dp x.ds x.se x.da).nt, .slice (Pv.mk 44 x.pr x.eg x.ed x.ik x.id x.am x.ad x.np x.ns x.nt x.nd x.dp x.ds x.se x.da).nd.p (Pv.mk 44 x.pr x.eg x.ed x.ik x.id x.am x.ad x.np x.ns x.nt x.nd x.dp x.ds x.se x.da).nd.n (Pv.mk 44 x.pr x.eg x.ed x.ik x.id x.am x.ad x.np x.ns x.nt x.nd x.dp x.ds x.se x.da).nd.c, .int .i64 (Pv.mk 44 x.pr x.eg x.ed x.ik x.id x.am x.ad x.np x.ns x.nt x.nd x.dp x.ds x.se x.da).dp, .slice (Pv.mk 44 x.pr x.eg x.ed x.ik x.id x.am x.ad x.np x.ns x.nt x.nd x.dp x.ds x.se x.da).ds.p (Pv.mk 44 x.pr x.eg x.ed x.ik x.id x.am x.ad x.np x.ns x.nt x.nd x.dp x.ds x.se x.da).ds.n (Pv.mk 44 x.pr x.eg x.ed x.ik x.id x.am x.ad x.np x.ns x.nt x.nd x.dp x.ds x.se x.da).ds.c, .slice (Pv.mk 44 x.pr x.eg x.ed x.ik x.id x.am x.ad x.np x.ns x.nt x.nd x.dp x.ds x.se x.da).se.p (Pv.mk 44 x.pr x.eg x.ed x.ik x.id x.am x.ad x.np x.ns x.nt x.nd x.dp x.ds x.se x.da).se.n (Pv.mk 44 x.pr x.eg x.ed x.ik x.id x.am x.ad x.np x.ns x.nt x.nd x.dp x.ds x.se x.da).se.c, .slice (Pv.mk 44 x.pr x.eg x.ed x.ik x.id x.am x.ad x.np x.ns x.nt x.nd x.dp x.ds x.se x.da).da.p (Pv.mk 44 x.pr x.eg x.ed x.ik x.id x.am x.ad x.np x.ns x.nt x.nd x.dp x.ds x.se x.da).da.n (Pv.mk 44 x.pr x.eg x.ed x.ik x.id x.am x.ad x.np x.ns x.nt x.nd x.dp x.ds x.se x.da).da.c] 45)) _ _ hc)
    simp only at hk3 hz3 hb3 hg3
    have HK3 := hidden hk3
    have HZ3 := hidden hz3
    have HB3 := hidden hb3
    have HG3 := hidden hg3
    clear hk3 hz3 hb3 hg3 HGO HZA HBA
    go_upto_region 6 with fail
    clear d0
    generalize hw3 : w2.alloc (.cells #[.int .i64 44, .slice x.pr.p x.pr.n x.pr.c, .int .i64 x.eg, .slice x.ed.p x.ed.n x.ed.c, .int .i64 x.ik, .slice x.id.p x.id.n x.id.c, .int .i64 x.am, .slice x.ad.p x.ad.n x.ad.c, .int .i64 x.np, .slice x.ns.p x.ns.n x.ns.c, .int .i64 x.nt, .slice x.nd.p x.nd.n x.nd.c, .int .i64 x.dp, .slice x.ds.p x.ds.n x.ds.c, .slice x.se.p x.se.n x.se.c, .slice x.da.p x.da.n x.da.c] 45) = w3 at *
    generalize w2.heap.size = g5 at *
    clear hw3
    obtain ⟨k0, k1, k2, k3, k4, k5, k6, k7, k8, k9, k10, k11, k12, k13, k14, k15, kfr⟩ := HK3.out
    obtain ⟨y0, y1, y2, y3, y4, y5, y6, y7, y8, y9, y10, y11, y12, y13, y14, y15, z0, z1, z2, z3, z4, z5, z6, z7, z8, z9, z10, z11, z12, z13, z14, z15, zf⟩ := HZ3.out.any
    have hz := stored_pv HZ3.out HB3.out (by omega) { x with t := 44 }
    have hgd := (G.ty 44 (G.keep HG3.out (fun a v ha hc => (setPv_grown w3 (w.heap.size + 1) { x with t := 44 }).cell hc (by rw [HSZ.out] at ha; simp; omega))))
    simp only [setPv] at hz hgd
    have HZZ := hidden hz
    have HGG := hidden (G.mono hgd (by rw [HSZ.out]; omega : w.heap.size ≤ _))
    clear hz hgd
    go_wp2
    exact ret_pv (g := w.heap.size + 1) rfl rfl rfl rfl HZZ.out.1 ⟨_, rfl, HZZ.out.2, Or.inl ⟨rfl, rfl, HGG.out⟩⟩
  · have hE' : (E != 0) = true := by simpa using hE
    have HE := hidden hE
    clear hE HGO
    have HZ2 := hidden (HZA.out.alloc (.cells #[.int .i64 x.t, .slice x.pr.p x.pr.n x.pr.c, .int .i64 x.eg, .slice x.ed.p x.ed.n x.ed.c, .int .i64 x.ik, .slice x.id.p x.id.n x.id.c, .int .i64 x.am, .slice x.ad.p x.ad.n x.ad.c, .int .i64 x.np, .slice x.ns.p x.ns.n x.ns.c, .int .i64 x.nt, .slice x.nd.p x.nd.n x.nd.c, .int .i64 x.dp, .slice x.ds.p x.ds.n x.ds.c, .slice x.se.p x.se.n x.se.c, .slice x.da.p x.da.n x.da.c] 45))
    have HB2 := hidden (HBA.out.alloc HBA.out.size (.cells #[.int .i64 x.t, .slice x.pr.p x.pr.n x.pr.c, .int .i64 x.eg, .slice x.ed.p x.ed.n x.ed.c, .int .i64 x.ik, .slice x.id.p x.id.n x.id.c, .int .i64 x.am, .slice x.ad.p x.ad.n x.ad.c, .int .i64 x.np, .slice x.ns.p x.ns.n x.ns.c, .int .i64 x.nt, .slice x.nd.p x.nd.n x.nd.c, .int .i64 x.dp, .slice x.ds.p x.ds.n x.ds.c, .slice x.se.p x.se.n x.se.c, .slice x.da.p x.da.n x.da.c] 45))
    clear HZA HBA
    generalize hw3 : w2.alloc (.cells #[.int .i64 x.t, .slice x.pr.p x.pr.n x.pr.c, .int .i64 x.eg, .slice x.ed.p x.ed.n x.ed.c, .int .i64 x.ik, .slice x.id.p x.id.n x.id.c, .int .i64 x.am, .slice x.ad.p x.ad.n x.ad.c, .int .i64 x.np, .slice x.ns.p x.ns.n x.ns.c, .int .i64 x.nt, .slice x.nd.p x.nd.n x.nd.c, .int .i64 x.dp, .slice x.ds.p x.ds.n x.ds.c, .slice x.se.p x.se.n x.se.c, .slice x.da.p x.da.n x.da.c] 45) = w3 at *
    obtain ⟨y0, y1, y2, y3, y4, y5, y6, y7, y8, y9, y10, y11, y12, y13, y14, y15, z0, z1, z2, z3, z4, z5, z6, z7, z8, z9, z10, z11, z12, z13, z14, z15, zf⟩ := HZ2.out.any
    have hz := stored_pv HZ2.out HB2.out (by omega) zeroP
    simp only [setPv, zeroP, nilV] at hz
    have HZZ := hidden hz
    clear hz hw3
    go_wp2
    exact ret_pv (g := w.heap.size + 1) rfl rfl rfl rfl HZZ.out.1 ⟨zeroP, rfl, HZZ.out.2, Or.inr ⟨HE.out, rfl⟩⟩
end Go.Proofs.YtbpmanbpmlkmnaaGreatDoor

namespace Go.Proofs.YtbpmanbpmlkmnaaGreatDoor
open Go.RowKit
set_option linter.unusedVariables false

theorem reader_45 (p : Option Addr) (n c : Nat) (w : World) :
    Calls Tryz.prog 19 #[.slice p n c, .int .i64 45] w fun e w' => e = .returned (.func (.func 48) #[.slice p n c] #[]) ∧ w = w' := by
  go_enter Tryz.func19, Tryz.ntmps19
  go_wp2
  go_ret
  exact ⟨rfl, rfl⟩

set_option maxHeartbeats 1600000 in
set_option maxRecDepth 100000 in
theorem pparse_45 (p : Option Addr) (n c : Nat) (xs : List Int) (cr : Bool) (E : Int) (G : Gd) (w : World) (h : Byt w p n c xs) (HRD : ∀ w, Byt w p n c xs → Calls Tryz.prog 48 #[.slice p n c] w (ReadPv w E (fun w' x => G.ok w.heap.size w' x))) :
    Calls Tryz.prog 10 #[.agg #[.int .i64 45, .bool cr, .slice p n c]] w (ParsedV w 45 E G) := by
  have HX := hidden ((h.alloc (.cells #[.int .i64 45, .bool cr, .slice p n c] 27)).alloc (.cells #[.int .i64 0, .slice none 0 0, .int .i64 0, .slice none 0 0, .int .i64 0, .slice none 0 0, .int .i64 0, .slice none 0 0, .int .i64 0, .slice none 0 0, .int .i64 0, .slice none 0 0, .int .i64 0, .slice none 0 0, .slice none 0 0, .slice none 0 0] 45))
  have HB := hidden (((Below.refl w.heap.size w).alloc (Nat.le_refl _) (.cells #[.int .i64 45, .bool cr, .slice p n c] 27)).alloc (by simp) (.cells #[.int .i64 0, .slice none 0 0, .int .i64 0, .slice none 0 0, .int .i64 0, .slice none 0 0, .int .i64 0, .slice none 0 0, .int .i64 0, .slice none 0 0, .int .i64 0, .slice none 0 0, .int .i64 0, .slice none 0 0, .slice none 0 0, .slice none 0 0] 45))
  have HZ : Hid (PvIn ((w.alloc (.cells #[.int .i64 45, .bool cr, .slice p n c] 27)).alloc (.cells #[.int .i64 0, .slice none 0 0, .int .i64 0, .slice none 0 0, .int .i64 0, .slice none 0 0, .int .i64 0, .slice none 0 0, .int .i64 0, .slice none 0 0, .int .i64 0, .slice none 0 0, .int .i64 0, .slice none 0 0, .slice none 0 0, .slice none 0 0] 45)) (w.heap.size + 1) zeroP) := hidden (by
    have := PvIn.new (w.alloc (.cells #[.int .i64 45, .bool cr, .slice p n c] 27)) zeroP 45
    simpa [zeroP, nilV] using this)
  have HW0 := hidden (show ((w.alloc (.cells #[.int .i64 45, .bool cr, .slice p n c] 27)).alloc (.cells #[.int .i64 0, .slice none 0 0, .int .i64 0, .slice none 0 0, .int .i64 0, .slice none 0 0, .int .i64 0, .slice none 0 0, .int .i64 0, .slice none 0 0, .int .i64 0, .slice none 0 0, .int .i64 0, .slice none 0 0, .slice none 0 0, .slice none 0 0] 45)).cell? ⟨w.heap.size, 0, none⟩ = some (.int .i64 45) by go_simp)
  have HSZ := hidden (show ((w.alloc (.cells #[.int .i64 45, .bool cr, .slice p n c] 27)).alloc (.cells #[.int .i64 0, .slice none 0 0, .int .i64 0, .slice none 0 0, .int .i64 0, .slice none 0 0, .int .i64 0, .slice none 0 0, .int .i64 0, .slice none 0 0, .int .i64 0, .slice none 0 0, .int .i64 0, .slice none 0 0, .slice none 0 0, .slice none 0 0] 45)).heap.size = w.heap.size + 1 + 1 by simp)
  have HR := hidden HRD
  clear h HRD
  go_enter Tryz.func10, Tryz.ntmps10
  go_upto_region 3 with (first
    | (go_at_call 19; (with_reducible refine (reader_45 _ _ _ _).mono ?_); rintro e w' ⟨rfl, rfl⟩)
    | (go_at_call 48; (with_reducible refine (HR.out _ HX.out).mono ?_); rintro e w2 ⟨x, rfl, hb2, hgood⟩; have HBA := hidden (HB.out.trans (hb2.mono HB.out.size)); have HZA := hidden (HZ.out.below hb2); have HGO := hidden hgood; have HDA := hidden (cell_below hb2 _ _ HW0.out); have d0 := cell_below ((Below.refl _ w2).alloc (Nat.le_refl _) (.cells #[.int .i64 x.t, .slice x.pr.p x.pr.n x.pr.c, .int .i64 x.eg, .slice x.ed.p x.ed.n x.ed.c, .int .i64 x.ik, .slice x.id.p x.id.n x.id.c, .int .i64 x.am, .slice x.ad.p x.ad.n x.ad.c, .int .i64 x.np, .slice x.ns.p x.ns.n x.ns.c, .int .i64 x.nt, .slice x.nd.p x.nd.n x.nd.c, .int .i64 x.dp, .slice x.ds.p x.ds.n x.ds.c, .slice x.se.p x.se.n x.se.c, .slice x.da.p x.da.n x.da.c] 45)) _ _ HDA.out; have HSB := hidden hb2.size; clear hb2 hgood)
    | fail)
  have hsb := HSB.out
  rw [HSZ.out] at hsb
  have hne1 : ¬ w2.heap.size = w.heap.size + 1 := by omega
  have hne2 : ¬ w.heap.size + 1 = w2.heap.size := by omega
  by_cases hE : E = 0
  · subst hE
    have hk3 := PvIn.new w2 { x with t := 45 } 45
    have hz3 := HZA.out.alloc (.cells #[.int .i64 (Pv.mk 45 x.pr x.eg x.ed x.ik x.id x.am x.ad x.np x.ns x.nt x.nd x.dp x.ds x.se x.da).t, .slice (Pv.mk 45 x.pr x.eg x.ed x.ik x.id x.am x.ad x.np x.ns x.nt x.nd x.dp x.ds x.se x.da).pr.p (Pv.mk 45 x.pr x.eg x.ed x.ik x.id x.am x.ad x.np x.ns x.nt x.nd x.dp x.ds x.se x.da).pr.n (Pv.mk 45 x.pr x.eg x.ed x.ik x.id x.am x.ad x.np x.ns x.nt x.nd x.dp x.ds x.se x.da).pr.c, .int .i64 (Pv.mk 45 x.pr x.eg x.ed x.ik x.id x.am x.ad x.np x.ns x.nt x.nd x.dp x.ds x.se x.da).eg, .slice (Pv.mk 45 x.pr x.eg x.ed x.ik x.id x.am x.ad x.np x.ns x.nt x.nd x.dp x.ds x.se x.da).ed.p (Pv.mk 45 x.pr x.eg x.ed x.ik x.id x.am x.ad x.np x.ns x.nt x.nd x.dp x.ds x.se x.da).ed.n (Pv.mk 45 x.pr x.eg x.ed x.ik x.id x.am x.ad x.np x.ns x.nt x.nd x.dp x.ds x.se x.da).ed.c, .int .i64 (Pv.mk 45 x.pr x.eg x.ed x.ik x.id x.am x.ad x.np x.ns x.nt x.nd x.dp x.ds x.se x.da).ik, .slice (Pv.mk 45 x.pr x.eg x.ed x.ik x.id x.am x.ad x.np x.ns x.nt x.nd x.dp x.ds x.se x.da).id.p (Pv.mk 45 x.pr x.eg x.ed x.ik x.id x.am x.ad x.np x.ns x.nt x.nd x.dp x.ds x.se x.da).id.n (Pv.mk 45 x.pr x.eg x.ed x.ik x.id x.am x.ad x.np x.ns x.nt x.nd x.dp x.ds x.se x.da).id.c, .int .i64 (Pv.mk 45 x.pr x.eg x.ed x.ik x.id x.am x.ad x.np x.ns x.nt x.nd x.dp x.ds x.se x.da).am, .slice (Pv.mk 45 x.pr x.eg x.ed x.ik x.id x.am x.ad x.np x.ns x.nt x.nd x.dp x.ds x.se x.da).ad.p (Pv.mk 45 x.pr x.eg x.ed x.ik x.id x.am x.ad x.np x.ns x.nt x.nd x.dp x.ds x.se x.da).ad.n (Pv.mk 45 x.pr x.eg x.ed x.ik x.id x.am x.ad x.np x.ns x.nt x.nd x.dp x.ds x.se x.da).ad.c, .int .i64 (Pv.mk 45 x.pr x.eg x.ed x.ik x.id x.am x.ad x.np x.ns x.nt x.nd x.dp x.ds x.se x.da).np, .slice (Pv.mk 45 x.pr x.eg x.ed x.ik x.id x.am x.ad x.np x.ns x.nt x.nd x.dp x.ds x.se x.da).ns.p (Pv.mk 45 x.pr x.eg x.ed x.ik x.id x.am x.ad x.np x.ns x.nt x.nd x.dp x.ds x.se x.da).ns.n (Pv.mk 45 x.pr x.eg x.ed x.ik x.id x.am x.ad x.np x.ns x.nt x.nd x.dp x.ds x.se x.da).ns.c, .int .i64 (Pv.mk 45 x.pr x.eg x.ed x.ik x.id x.am x.ad x.np x.ns x.nt x.nd x.dp x.ds x.se x.da).nt, .slice (Pv.mk 45 x.pr x.eg x.ed x.ik x.id x.am x.ad x.np x.ns x.nt x.nd x.dp x.ds x.se x.da).nd.p (Pv.mk 45 x.pr x.eg x.ed x.ik x.id x.am x.ad x.np x.ns x.nt x.nd x.dp x.ds x.se x.da).nd.n (Pv.mk 45 x.pr x.eg x.ed x.ik x.id x.am x.ad x.np x.ns x.nt x.nd x.dp x.ds x.se x.da).nd.c, .int .i64 (Pv.mk 45 x.pr x.eg x.ed x.ik x.id x.am x.ad x.np x.ns x.nt x.nd x.dp x.ds x.se x.da).dp, .slice (Pv.mk 45 x.pr x.eg x.ed x.ik x.id x.am x.ad x.np x.ns x.nt x.nd x.dp x.ds x.se x.da).ds.p (Pv.mk 45 x.pr x.eg x.ed x.ik x.id x.am x.ad x.np x.ns x.nt x.nd x.dp x.ds x.se x.da).ds.n (Pv.mk 45 x.pr x.eg x.ed x.ik x.id x.am x.ad x.np x.ns x.nt x.nd x.dp x.ds x.se x.da).ds.c, .slice (Pv.mk 45 x.pr x.eg x.ed x.ik x.id x.am x.ad x.np x.ns x.nt x.nd x.dp x.ds x.se x.da).se.p (Pv.mk 45 x.pr x.eg x.ed x.ik x.id x.am x.ad x.np x.ns x.nt x.nd x.dp x.ds x.se x.da).se.n (Pv.mk 45 x.pr x.eg x.ed x.ik x.id x.am x.ad x.np x.ns x.nt x.nd x.dp x.ds x.se x.da).se.c, .slice (Pv.mk 45 x.pr x.eg x.ed x.ik x.id x.am x.ad x.np x.ns x.nt x.nd x.dp x.ds x.se x.da).da.p (Pv.mk 45 x.pr x.eg x.ed x.ik x.id x.am x.ad x.np x.ns x.nt x.nd x.dp x.ds x.se x.da).da.n (Pv.mk 45 x.pr x.eg x.ed x.ik x.id x.am x.ad x.np x.ns x.nt x.nd x.dp x.ds x.se x.da).da.c] 45)
    have hb3 := HBA.out.alloc HBA.out.size (.cells #[.int .i64 (Pv.mk 45 x.pr x.eg x.ed x.ik x.id x.am x.ad x.np x.ns x.nt x.nd x.dp x.ds x.se x.da).t, .slice (Pv.mk 45 x.pr x.eg x.ed x.ik x.id x.am x.ad x.np x.ns x.nt x.nd x.dp x.ds x.se x.da).pr.p (Pv.mk 45 x.pr x.eg x.ed x.ik x.id x.am x.ad x.np x.ns x.nt x.nd x.dp x.ds x.se x.da).pr.n (Pv.mk 45 x.pr x.eg x.ed x.ik x.id x.am x.ad x.np x.ns x.nt x.nd x.dp x.ds x.se x.da).pr.c, .int .i64 (Pv.mk 45 x.pr x.eg x.ed x.ik x.id x.am x.ad x.np x.ns x.nt x.nd x.dp x.ds x.se x.da).eg, .slice (Pv.mk 45 x.pr x.eg x.ed x.ik x.id x.am x.ad x.np x.ns x.nt x.nd x.dp x.ds x.se x.da).ed.p (Pv.mk 45 x.pr x.eg x.ed x.ik x.id x.am x.ad x.np x.ns x.nt x.nd x.dp x.ds x.se x.da).ed.n (Pv.mk 45 x.pr x.eg x.ed x.ik x.id x.am x.ad x.np x.ns x.nt x.nd x.dp x.ds x.se x.da).ed.c, .int .i64 (Pv.mk 45 x.pr x.eg x.ed x.ik x.id x.am x.ad x.np x.ns x.nt x.nd x.dp x.ds x.se x.da).ik, .slice (Pv.mk 45 x.pr x.eg x.ed x.ik x.id x.am x.ad x.np x.ns x.nt x.nd x.dp x.ds x.se x.da).id.p (Pv.mk 45 x.pr x.eg x.ed x.ik x.id x.am x.ad x.np x.ns x.nt x.nd x.dp x.ds x.se x.da).id.n (Pv.mk 45 x.pr x.eg x.ed x.ik x.id x.am x.ad x.np x.ns x.nt x.nd x.dp x.ds x.se x.da).id.c, .int .i64 (Pv.mk 45 x.pr x.eg x.ed x.ik x.id x.am x.ad x.np x.ns x.nt x.nd x.dp x.ds x.se x.da).am, .slice (Pv.mk 45 x.pr x.eg x.ed x.ik x.id x.am x.ad x.np x.ns x.nt x.nd x.dp x.ds x.se x.da).ad.p (Pv.mk 45 x.pr x.eg x.ed x.ik x.id x.am x.ad x.np x.ns x.nt x.nd x.dp x.ds x.se x.da).ad.n (Pv.mk 45 x.pr x.eg x.ed x.ik x.id x.am x.ad x.np x.ns x.nt x.nd x.dp x.ds x.se x.da).ad.c, .int .i64 (Pv.mk 45 x.pr x.eg x.ed x.ik x.id x.am x.ad x.np x.ns x.nt x.nd x.dp x.ds x.se x.da).np, .slice (Pv.mk 45 x.pr x.eg x.ed x.ik x.id x.am x.ad x.np x.ns x.nt x.nd x.dp x.ds x.se x.da).ns.p (Pv.mk 45 x.pr x.eg x.ed x.ik x.id x.am x.ad x.np x.ns x.nt x.nd x.dp x.ds x.se x.da).ns.n (Pv.mk 45 x.pr x.eg x.ed x.ik x.id x.am x.ad x.np x.ns x.nt x.nd x.dp x.ds x.se x.da).ns.c, .int .i64 (Pv.mk 45 x.pr x.eg x.ed x.ik x.id x.am x.ad x.np x.ns x.nt x.nd x.dp x.ds x.se x.da).nt, .slice (Pv.mk 45 x.pr x.eg x.ed x.ik x.id x.am x.ad x.np x.ns x.nt x.nd x.dp x.ds x.se x.da).nd.p (Pv.mk 45 x.pr x.eg x.ed x.ik x.id x.am x.ad x.np x.ns x.nt x.nd x.dp x.ds x.se x.da).nd.n (Pv.mk 45 x.pr x.eg x.ed x.ik x.id x.am x.ad x.np x.ns x.nt x.nd x.dp x.ds x.se x.da).nd.c, .int .i64 (Pv.mk 45 x.pr x.eg x.ed x.ik x.id x.am x.ad x.np x.ns x.nt x.nd x.dp x.ds x.se x.da).dp, .slice (Pv.mk 45 x.pr x.eg x.ed x.ik x.id x.am x.ad x.np x.ns x.nt x.nd x.dp x.ds x.se x.da).ds.p (Pv.mk 45 x.pr x.eg x.ed x.ik x.id x.am x.ad x.np x.ns x.nt x.nd x.dp x.ds x.se x.da).ds.n (Pv.mk 45 x.pr x.eg x.ed x.ik x.id x.am x.ad x.np x.ns x.nt x.nd x.dp x.ds x.se x.da).ds.c, .slice (Pv.mk 45 x.pr x.eg x.ed x.ik x.id x.am x.ad x.np x.ns x.nt x.nd x.dp x.ds x.se x.da).se.p (Pv.mk 45 x.pr x.eg x.ed x.ik x.id x.am x.ad x.np x.ns x.nt x.nd x.dp x.ds x.se x.da).se.n (Pv.mk 45 x.pr x.eg x.ed x.ik x.id x.am x.ad x.np x.ns x.nt x.nd x.dp x.ds x.se x.da).se.c, .slice (Pv.mk 45 x.pr x.eg x.ed x.ik x.id x.am x.ad x.np x.ns x.nt x.nd x.dp x.ds x.se x.da).da.p (Pv.mk 45 x.pr x.eg x.ed x.ik x.id x.am x.ad x.np x.ns x.nt x.nd x.dp x.ds x.se x.da).da.n (Pv.mk 45 x.pr x.eg x.ed x.ik x.id x.am x.ad x.np x.ns x.nt x.nd x.dp x.ds x.se x.da).da.c] 45)
    have hg3 := G.keep (HGO.out rfl) (fun a v ha hc => cell_below ((Below.refl _ w2).alloc (Nat.le_refl _) (.cells #[.int .i64 (Pv.mk 45 x.pr x.eg x.ed x.ik x.id x.am x.ad x.np x.ns x.nt x.nd x.dp x.ds x.se x.da).t, .slice (Pv.mk 45 x.pr x.eg x.ed x.ik x.id x.am x.ad x.np x.ns x.nt x.nd x.dp x.ds x.se x.da).pr.p (Pv.mk 45 x.pr x.eg x.ed x.ik x.id x.am x.ad x.np x.ns x.nt x.nd x.dp x.ds x.se x.da).pr.n (Pv.mk 45 x.pr x.eg x.ed x.ik x.id x.am x.ad x.np x.ns x.nt x.nd x.dp x.ds x.se x.da).pr.c, .int .i64 (Pv.mk 45 x.pr x.eg x.ed x.ik x.id x.am x.ad x.np x.ns x.nt x.nd x.dp x.ds x.se x.da).eg, .slice (Pv.mk 45 x.pr x.eg x.ed x.ik x.id x.am x.ad x.np x.ns x.nt x.nd x.dp x.ds x.se x.da).ed.p (Pv.mk 45 x.pr x.eg x.ed x.ik x.id x.am x.ad x.np x.ns x.nt x.nd x.dp x.ds x.se x.da).ed.n (Pv.mk 45 x.pr x.eg x.ed x.ik x.id x.am x.ad x.np x.ns x.nt x.nd x.dp x.ds x.se x.da).ed.c, .int .i64 (Pv.mk 45 x.pr x.eg x.ed x.ik x.id x.am x.ad x.np x.ns x.nt x.nd x.dp x.ds x.se x.da).ik, .slice (Pv.mk 45 x.pr x.eg x.ed x.ik x.id x.am x.ad x.np x.ns x.nt x.nd x.dp x.ds x.se x.da).id.p (Pv.mk 45 x.pr x.eg x.ed x.ik x.id x.am x.ad x.np x.ns x.nt x.nd x.dp x.ds x.se x.da).id.n (Pv.mk 45 x.pr x.eg x.ed x.ik x.id x.am x.ad x.np x.ns x.nt x.nd x.dp x.ds x.se x.da).id.c, .int .i64 (Pv.mk 45 x.pr x.eg x.ed x.ik x.id x.am x.ad x.np x.ns x.nt x.nd x.dp x.ds x.se x.da).am, .slice (Pv.mk 45 x.pr x.eg x.ed x.ik x.id x.am x.ad x.np x.ns x.nt x.nd x.dp x.ds x.se x.da).ad.p (Pv.mk 45 x.pr x.eg x.ed x.ik x.id x.am x.ad x.np x.ns x.nt x.nd x.dp x.ds x.se x.da).ad.n (Pv.mk 45 x.pr x.eg x.ed x.ik x.id x.am x.ad x.np x.ns x.nt x.nd x.dp x.ds x.se x.da).ad.c, .int .i64 (Pv.mk 45 x.pr x.eg x.ed x.ik x.id x.am x.ad x.np x.ns x.nt x.nd x.dp x.ds x.se x.da).np, .slice (Pv.mk 45 x.pr x.eg x.ed x.ik x.id x.am x.ad x.np x.ns x.nt x.nd x.dp x.ds x.se x.da).ns.p (Pv.mk 45 x.pr x.eg x.ed x.ik x.id x.am x.ad x.np x.ns x.nt x.nd x.dp x.ds x.se x.da).ns.n (Pv.mk 45 x.pr x.eg x.ed x.ik x.id x.am x.ad x.np x.ns x.nt x.nd x.dp x.ds x.se x.da).ns.c, .int .i64 (Pv.mk 45 x.pr x.eg x.ed x.ik x.id x.am x.ad x.np x.ns x.nt x.nd x.dp x.ds x.se x.da).nt, .slice (Pv.mk 45 x.pr x.eg x.ed x.ik x.id x.am x.ad x.np x.ns x.nt x.nd x.dp x.ds x.se x.da).nd.p (Pv.mk 45 x.pr x.eg x.ed x.ik x.id x.am x.ad x.np x.ns x.nt x.nd x.dp x.ds x.se x.da).nd.n (Pv.mk 45 x.pr x.eg x.ed x.ik x.id x.am x.ad x.np x.ns x.nt x.nd x.dp x.ds x.se x.da).nd.c, .int .i64 (Pv.mk 45 x.pr x.eg x.ed x.ik x.id x.am x.ad x.np x.ns x.nt x.nd x.dp x.ds x.se x.da).dp, .slice (Pv.mk 45 x.pr x.eg x.ed x.ik x.id x.am x.ad x.np x.ns x.nt x.nd x.dp x.ds x.se x.da).ds.p (Pv.mk 45 x.pr x.eg x.ed x.ik x.id x.am x.ad x.np x.ns x.nt x.nd x.dp x.ds x.se x.da).ds.n (Pv.mk 45 x.pr x.eg x.ed x.ik x.id x.am x.ad x.np x.ns x.nt x.nd x.dp x.ds x.se x.da).ds.c, .slice (Pv.mk 45 x.pr x.eg x.ed x.ik x.id x.am x.ad x.np x.ns x.nt x.nd x.dp x.ds x.se x.da).se.p (Pv.mk 45 x.pr x.eg x.ed x.ik x.id x.am x.ad x.np x.ns x.nt x.nd x.dp x.ds x.se x.da).se.n (Pv.mk 45 x.pr x.eg x.ed x.ik x.id x.am x.ad x.np x.ns x.nt x.nd x.dp x.ds x.se x.da).se.c, .slice (Pv.mk 45 x.pr x.eg x.ed x.ik x.id x.am x.ad x.np x.ns x.nt x.nd x.dp x.ds x.se x.da).da.p (Pv.mk 45 x.pr x.eg x.ed x.ik x.id x.am x.ad x.np x.ns x.nt x.nd x.dp x.ds x.se x.da).da.n (Pv.mk 45 x.pr x.eg x.ed x.ik x.id x.am x.ad x.np x.ns x.nt x.nd x.dp x.ds x.se x.da).da.c] 45)) _ _ hc)
    simp only at hk3 hz3 hb3 hg3
    have HK3 := hidden hk3
    have HZ3 := hidden hz3
    have HB3 := hidden hb3
    have HG3 := hidden hg3
    clear hk3 hz3 hb3 hg3 HGO HZA HBA
    go_upto_region 6 with fail
    clear d0
    generalize hw3 : w2.alloc (.cells #[.int .i64 45, .slice x.pr.p x.pr.n x.pr.c, .int .i64 x.eg, .slice x.ed.p x.ed.n x.ed.c, .int .i64 x.ik, .slice x.id.p x.id.n x.id.c, .int .i64 x.am, .slice x.ad.p x.ad.n x.ad.c, .int .i64 x.np, .slice x.ns.p x.ns.n x.ns.c, .int .i64 x.nt, .slice x.nd.p x.nd.n x.nd.c, .int .i64 x.dp, .slice x.ds.p x.ds.n x.ds.c, .slice x.se.p x.se.n x.se.c, .slice x.da.p x.da.n x.da.c] 45) = w3 at *
    generalize w2.heap.size = g5 at *
    clear hw3
    obtain ⟨k0, k1, k2, k3, k4, k5, k6, k7, k8, k9, k10, k11, k12, k13, k14, k15, kfr⟩ := HK3.out
    obtain ⟨y0, y1, y2, y3, y4, y5, y6, y7, y8, y9, y10, y11, y12, y13, y14, y15, z0, z1, z2, z3, z4, z5, z6, z7, z8, z9, z10, z11, z12, z13, z14, z15, zf⟩ := HZ3.out.any
    have hz := stored_pv HZ3.out HB3.out (by omega) { x with t := 45 }
    have hgd := (G.ty 45 (G.keep HG3.out (fun a v ha hc => (setPv_grown w3 (w.heap.size + 1) { x with t := 45 }).cell hc (by rw [HSZ.out] at ha; simp; omega))))
    simp only [setPv] at hz hgd
    have HZZ := hidden hz
    have HGG := hidden (G.mono hgd (by rw [HSZ.out]; omega : w.heap.size ≤ _))
    clear hz hgd
    go_wp2
    exact ret_pv (g := w.heap.size + 1) rfl rfl rfl rfl HZZ.out.1 ⟨_, rfl, HZZ.out.2, Or.inl ⟨rfl, rfl, HGG.out⟩⟩
  · have hE' : (E != 0) = true := by simpa using hE
    have HE := hidden hE
    clear hE HGO
    have HZ2 := hidden (HZA.out.alloc (.cells #[.int .i64 x.t, .slice x.pr.p x.pr.n x.pr.c, .int .i64 x.eg, .slice x.ed.p x.ed.n x.ed.c, .int .i64 x.ik, .slice x.id.p x.id.n x.id.c, .int .i64 x.am, .slice x.ad.p x.ad.n x.ad.c, .int .i64 x.np, .slice x.ns.p x.ns.n x.ns.c, .int .i64 x.nt, .slice x.nd.p x.nd.n x.nd.c, .int .i64 x.dp, .slice x.ds.p x.ds.n x.ds.c, .slice x.se.p x.se.n x.se.c, .slice x.da.p x.da.n x.da.c] 45))
    have HB2 := hidden (HBA.out.alloc HBA.out.size (.cells #[.int .i64 x.t, .slice x.pr.p x.pr.n x.pr.c, .int .i64 x.eg, .slice x.ed.p x.ed.n x.ed.c, .int .i64 x.ik, .slice x.id.p x.id.n x.id.c, .int .i64 x.am, .slice x.ad.p x.ad.n x.ad.c, .int .i64 x.np, .slice x.ns.p x.ns.n x.ns.c, .int .i64 x.nt, .slice x.nd.p x.nd.n x.nd.c, .int .i64 x.dp, .slice x.ds.p x.ds.n x.ds.c, .slice x.se.p x.se.n x.se.c, .slice x.da.p x.da.n x.da.c] 45))
    clear HZA HBA
    generalize hw3 : w2.alloc (.cells #[.int .i64 x.t, .slice x.pr.p x.pr.n x.pr.c, .int .i64 x.eg, .slice x.ed.p x.ed.n x.ed.c, .int .i64 x.ik, .slice x.id.p x.id.n x.id.c, .int .i64 x.am, .slice x.ad.p x.ad.n x.ad.c, .int .i64 x.np, .slice x.ns.p x.ns.n x.ns.c, .int .i64 x.nt, .slice x.nd.p x.nd.n x.nd.c, .int .i64 x.dp, .slice x.ds.p x.ds.n x.ds.c, .slice x.se.p x.se.n x.se.c, .slice x.da.p x.da.n x.da.c] 45) = w3 at *
    obtain ⟨y0, y1, y2, y3, y4, y5, y6, y7, y8, y9, y10, y11, y12, y13, y14, y15, z0, z1, z2, z3, z4, z5, z6, z7, z8, z9, z10, z11, z12, z13, z14, z15, zf⟩ := HZ2.out.any
    have hz := stored_pv HZ2.out HB2.out (by omega) zeroP
    simp only [setPv, zeroP, nilV] at hz
    have HZZ := hidden hz
    clear hz hw3
    go_wp2
    exact ret_pv (g := w.heap.size + 1) rfl rfl rfl rfl HZZ.out.1 ⟨zeroP, rfl, HZZ.out.2, Or.inr ⟨HE.out, rfl⟩⟩
end Go.Proofs.YtbpmanbpmlkmnaaGreatDoor

namespace Go.Proofs.YtbpmanbpmlkmnaaGreatDoor
open Go.RowKit
set_option linter.unusedVariables false

theorem spiSize_0 (w : World) : Calls Tryz.prog 96 #[.int .i64 0] w fun e w' => e = .returned (.int .i64 0) ∧ w = w' := by
  go_enter Tryz.func96, Tryz.ntmps96
  go_wp2
  go_ret
  exact ⟨rfl, rfl⟩
set_option maxHeartbeats 800000 in
theorem checkNotify_0 (w : World) : Calls Tryz.prog 74 #[.agg #[.int .i64 0, .slice none 0 0, .int .i64 16388, .slice none 0 0], .int .i64 0] w fun e w' => e = .returned (.int .i64 0) ∧ Below w.heap.size w w' := by
  have HB := hidden ((Below.refl w.heap.size w).alloc (Nat.le_refl _) (.cells #[.int .i64 0, .slice none 0 0, .int .i64 16388, .slice none 0 0] 39))
  go_enter Tryz.func74, Tryz.ntmps74
  go_wp2_with (first
    | (go_at_call 96; (with_reducible refine (spiSize_0 _).mono ?_); rintro e w' ⟨rfl, rfl⟩)
    | fail)
  go_ret
  exact ⟨rfl, HB.out⟩
theorem parts_two (w : World) (p0 p1 : Option Addr) (n0 n1 c0 c1 : Nat) (x0 x1 : List Int) (T : TypeId) (h0 : Byt w p0 n0 c0 x0) (h1 : Byt w p1 n1 c1 x1) : Parts (w.alloc (.cells #[.slice p0 n0 c0, .slice p1 n1 c1] T)) (some ⟨w.heap.size, 0, none⟩) 2 2 [⟨p0, n0, c0, x0⟩, ⟨p1, n1, c1, x1⟩] :=
  ⟨rfl, Nat.le_refl _, by decide, fun _ => ⟨_, rfl, fun j hj => by
    have : j = 0 ∨ j = 1 := by simp at hj; omega
    rcases this with rfl | rfl <;> go_simp⟩, fun x hx => by
    simp at hx
    rcases hx with rfl | rfl
    · exact h0.alloc _
    · exact h1.alloc _⟩
set_option maxHeartbeats 1600000 in
set_option maxRecDepth 100000 in
theorem buildNotify_0 (w : World) : Calls Tryz.prog 64 #[.agg #[.int .i64 0, .slice none 0 0, .int .i64 16388, .slice none 0 0]] w fun e w' => ∃ q d, e = .returned (.tuple #[.slice q 4 d, .int .i64 0]) ∧ Frs w' w.heap.size q 4 d [0, 0, 64, 4] ∧ Below w.heap.size w w' := by
  have HB := hidden (((Below.refl w.heap.size w).alloc (Nat.le_refl _) (.cells #[.int .i64 0, .slice none 0 0, .int .i64 16388, .slice none 0 0] 39)).alloc (by simp) (.cells #[.int .u8 0, .int .u8 0, .int .u8 64, .int .u8 4] 110))
  have hc : ((w.alloc (.cells #[.int .i64 0, .slice none 0 0, .int .i64 16388, .slice none 0 0] 39)).alloc (.cells #[.int .u8 0, .int .u8 0, .int .u8 64, .int .u8 4] 110)).cell? ⟨w.heap.size, 0, none⟩ = some (.int .i64 0) ∧ ((w.alloc (.cells #[.int .i64 0, .slice none 0 0, .int .i64 16388, .slice none 0 0] 39)).alloc (.cells #[.int .u8 0, .int .u8 0, .int .u8 64, .int .u8 4] 110)).cell? ⟨w.heap.size, 1, none⟩ = some (.slice none 0 0) ∧ ((w.alloc (.cells #[.int .i64 0, .slice none 0 0, .int .i64 16388, .slice none 0 0] 39)).alloc (.cells #[.int .u8 0, .int .u8 0, .int .u8 64, .int .u8 4] 110)).cell? ⟨w.heap.size, 2, none⟩ = some (.int .i64 16388) ∧ ((w.alloc (.cells #[.int .i64 0, .slice none 0 0, .int .i64 16388, .slice none 0 0] 39)).alloc (.cells #[.int .u8 0, .int .u8 0, .int .u8 64, .int .u8 4] 110)).cell? ⟨w.heap.size, 3, none⟩ = some (.slice none 0 0) ∧ ((w.alloc (.cells #[.int .i64 0, .slice none 0 0, .int .i64 16388, .slice none 0 0] 39)).alloc (.cells #[.int .u8 0, .int .u8 0, .int .u8 64, .int .u8 4] 110)).cell? ⟨w.heap.size + 1, 0, none⟩ = some (.int .u8 0) ∧ ((w.alloc (.cells #[.int .i64 0, .slice none 0 0, .int .i64 16388, .slice none 0 0] 39)).alloc (.cells #[.int .u8 0, .int .u8 0, .int .u8 64, .int .u8 4] 110)).cell? ⟨w.heap.size + 1, 1, none⟩ = some (.int .u8 0) ∧ ((w.alloc (.cells #[.int .i64 0, .slice none 0 0, .int .i64 16388, .slice none 0 0] 39)).alloc (.cells #[.int .u8 0, .int .u8 0, .int .u8 64, .int .u8 4] 110)).cell? ⟨w.heap.size + 1, 2, none⟩ = some (.int .u8 64) ∧ ((w.alloc (.cells #[.int .i64 0, .slice none 0 0, .int .i64 16388, .slice none 0 0] 39)).alloc (.cells #[.int .u8 0, .int .u8 0, .int .u8 64, .int .u8 4] 110)).cell? ⟨w.heap.size + 1, 3, none⟩ = some (.int .u8 4) := ⟨by go_simp, by go_simp, by go_simp, by go_simp, by go_simp, by go_simp, by go_simp, by go_simp⟩
  have HC := hidden hc
  clear hc
  go_enter Tryz.func64, Tryz.ntmps64
  go_upto_region 3 with fail
  generalize hwz : ((w.alloc (.cells #[.int .i64 0, .slice none 0 0, .int .i64 16388, .slice none 0 0] 39)).alloc (.cells #[.int .u8 0, .int .u8 0, .int .u8 64, .int .u8 4] 110)) = wz at *
  clear hwz
  have HK : Hid (∀ wx : World, Below wz.heap.size wz wx → wx.cell? ⟨w.heap.size, 0, none⟩ = some (.int .i64 0) ∧ wx.cell? ⟨w.heap.size, 1, none⟩ = some (.slice none 0 0) ∧ wx.cell? ⟨w.heap.size, 2, none⟩ = some (.int .i64 16388) ∧ wx.cell? ⟨w.heap.size, 3, none⟩ = some (.slice none 0 0) ∧ wx.cell? ⟨w.heap.size + 1, 0, none⟩ = some (.int .u8 0) ∧ wx.cell? ⟨w.heap.size + 1, 1, none⟩ = some (.int .u8 0) ∧ wx.cell? ⟨w.heap.size + 1, 2, none⟩ = some (.int .u8 64) ∧ wx.cell? ⟨w.heap.size + 1, 3, none⟩ = some (.int .u8 4)) := hidden (fun wx hb => ⟨cell_below hb _ _ HC.out.1, cell_below hb _ _ HC.out.2.1, cell_below hb _ _ HC.out.2.2.1, cell_below hb _ _ HC.out.2.2.2.1, cell_below hb _ _ HC.out.2.2.2.2.1, cell_below hb _ _ HC.out.2.2.2.2.2.1, cell_below hb _ _ HC.out.2.2.2.2.2.2.1, cell_below hb _ _ HC.out.2.2.2.2.2.2.2⟩)
  have HP := hidden ((parts_two wz none none 0 0 0 0 [] [] 22 (Byt.nil _ _ _ (by unfold maxLen; omega)) (Byt.nil _ _ _ (by unfold maxLen; omega))).below (w' := (wz.alloc (.cells #[.slice none 0 0, .slice none 0 0] 22)).drew) (drew_below ⟨1, rfl⟩))
  have HBD := hidden (show Below wz.heap.size wz wz.drew from drew_below ⟨1, rfl⟩)
  have HBA := hidden (((Below.refl wz.heap.size wz).alloc (Nat.le_refl _) (.cells #[.slice none 0 0, .slice none 0 0] 22)).trans (drew_below (B := wz.heap.size) (w' := (wz.alloc (.cells #[.slice none 0 0, .slice none 0 0] 22)).drew) ⟨1, rfl⟩))
  go_region_held3 (fun w' => w'.cell? ⟨w.heap.size, 0, none⟩ = some (.int .i64 0) ∧ w'.cell? ⟨w.heap.size, 1, none⟩ = some (.slice none 0 0) ∧ w'.cell? ⟨w.heap.size, 2, none⟩ = some (.int .i64 16388) ∧ w'.cell? ⟨w.heap.size, 3, none⟩ = some (.slice none 0 0) ∧ w'.cell? ⟨w.heap.size + 1, 0, none⟩ = some (.int .u8 0) ∧ w'.cell? ⟨w.heap.size + 1, 1, none⟩ = some (.int .u8 0) ∧ w'.cell? ⟨w.heap.size + 1, 2, none⟩ = some (.int .u8 64) ∧ w'.cell? ⟨w.heap.size + 1, 3, none⟩ = some (.int .u8 4)) (first | exact HK.out _ HBD.out | exact HK.out _ HBA.out | exact HK.out _ HB1.out | exact HK.out _ HB2.out | go_keep)
    (first
    | (go_at_call 59; (with_reducible refine (before_any 0 0 64 4 (by omega) (by omega) (by omega) (by omega) _ _ _ _ _ HP.out (by decide) [0, 0, 64, 4] rfl).mono ?_); rintro e w1 ⟨q1, d1, rfl, hf1, hb1⟩; have HB1 := hidden (HBA.out.trans (hb1.mono HBA.out.size)); have HF1 := hidden hf1; clear hf1 hb1)
    | (go_at_call 74; (with_reducible refine (checkNotify_0 _).mono ?_); rintro e w2 ⟨rfl, hb2⟩; have HB2 := hidden (HB1.out.trans (hb2.mono HB1.out.size)); have HF2 := hidden (HF1.out.below hb2); clear hb2)
    | fail)
  all_goals
    go_wp2
    go_ret2
    exact ⟨_, _, rfl, HF2.out.mono (Nat.le_trans HB.out.size HBA.out.size), HB.out.trans (HB2.out.mono HB.out.size)⟩

theorem ret_raw {fn : Func} {R : Ending → World → Prop} {act : Act} {w : World} {p s : Nat} {g : Nat} {k : Int} {c : Bool} {x u : Value} (h : fn.results = #[.cell p 27, .tmp s]) (hp : act.tmps.getD p undef = .pointer (some ⟨g, 0, none⟩)) (hs : act.tmps.getD s undef = u) (hd : act.defers = [])
    (c0 : w.cell? ⟨g, 0, none⟩ = some (.int .i64 k)) (c1 : w.cell? ⟨g, 1, none⟩ = some (.bool c)) (c2 : w.cell? ⟨g, 2, none⟩ = some x) (h1 : x.oneCell' = true)
    (hR : R (.returned (.tuple #[.agg #[.int .i64 k, .bool c, x], u])) w) : bodyPost Tryz.prog fn R .ret act w := by
  refine bodyPost_ret (v := .tuple #[.agg #[.int .i64 k, .bool c, x], u]) ?_ hd hR
  rw [Array.getD_eq_getD_getElem?] at hp hs
  have hl : (loadVar 27 ⟨g, 0, none⟩).run Tryz.prog w = .ok (.agg #[.int .i64 k, .bool c, x]) w := by simp [loadVar, go_sem, c0, c1, c2, Result.andThen]
  simp [results, h, hp, hs, asAddr, hl]

set_option maxHeartbeats 1600000 in
set_option maxRecDepth 100000 in
theorem build_0 (w : World) : Calls Tryz.prog 29 #[.agg #[.int .i64 41, .slice none 0 0, .int .i64 0, .slice none 0 0, .int .i64 0, .slice none 0 0, .int .i64 0, .slice none 0 0, .int .i64 0, .slice none 0 0, .int .i64 16388, .slice none 0 0, .int .i64 0, .slice none 0 0, .slice none 0 0, .slice none 0 0]] w fun e w' => ∃ q d, e = .returned (.tuple #[.slice q 4 d, .int .i64 0]) ∧ Frs w' w.heap.size q 4 d [0, 0, 64, 4] ∧ Below w.heap.size w w' := by
  have HB := hidden ((Below.refl w.heap.size w).alloc (Nat.le_refl _) (.cells #[.int .i64 41, .slice none 0 0, .int .i64 0, .slice none 0 0, .int .i64 0, .slice none 0 0, .int .i64 0, .slice none 0 0, .int .i64 0, .slice none 0 0, .int .i64 16388, .slice none 0 0, .int .i64 0, .slice none 0 0, .slice none 0 0, .slice none 0 0] 45))
  go_enter Tryz.func29, Tryz.ntmps29
  go_wp2_with (first
    | (go_at_call 64; (with_reducible refine (buildNotify_0 _).mono ?_); rintro e w1 ⟨q1, d1, rfl, hf1, hb1⟩; have HF1 := hidden (hf1.mono HB.out.size); have HB1 := hidden (HB.out.trans (hb1.mono HB.out.size)); clear hf1 hb1)
    | fail)
  go_ret2
  exact ⟨_, _, rfl, HF1.out, HB1.out⟩

set_option maxHeartbeats 1600000 in
set_option maxRecDepth 100000 in
theorem pbuild_0 (w : World) : Calls Tryz.prog 13 #[.agg #[.int .i64 41, .slice none 0 0, .int .i64 0, .slice none 0 0, .int .i64 0, .slice none 0 0, .int .i64 0, .slice none 0 0, .int .i64 0, .slice none 0 0, .int .i64 16388, .slice none 0 0, .int .i64 0, .slice none 0 0, .slice none 0 0, .slice none 0 0]] w fun e w' => ∃ q d, e = .returned (.tuple #[.agg #[.int .i64 41, .bool false, .slice q 4 d], .int .i64 0]) ∧ Byt w' q 4 d [0, 0, 64, 4] ∧ Below w.heap.size w w' := by
  have HB := hidden (((Below.refl w.heap.size w).alloc (Nat.le_refl _) (.cells #[.int .i64 41, .slice none 0 0, .int .i64 0, .slice none 0 0, .int .i64 0, .slice none 0 0, .int .i64 0, .slice none 0 0, .int .i64 0, .slice none 0 0, .int .i64 16388, .slice none 0 0, .int .i64 0, .slice none 0 0, .slice none 0 0, .slice none 0 0] 45)).alloc (by simp) (.cells #[.int .i64 0, .bool false, .slice none 0 0] 27))
  have hc : ((w.alloc (.cells #[.int .i64 41, .slice none 0 0, .int .i64 0, .slice none 0 0, .int .i64 0, .slice none 0 0, .int .i64 0, .slice none 0 0, .int .i64 0, .slice none 0 0, .int .i64 16388, .slice none 0 0, .int .i64 0, .slice none 0 0, .slice none 0 0, .slice none 0 0] 45)).alloc (.cells #[.int .i64 0, .bool false, .slice none 0 0] 27)).cell? ⟨w.heap.size, 0, none⟩ = some (.int .i64 41) ∧ ((w.alloc (.cells #[.int .i64 41, .slice none 0 0, .int .i64 0, .slice none 0 0, .int .i64 0, .slice none 0 0, .int .i64 0, .slice none 0 0, .int .i64 0, .slice none 0 0, .int .i64 16388, .slice none 0 0, .int .i64 0, .slice none 0 0, .slice none 0 0, .slice none 0 0] 45)).alloc (.cells #[.int .i64 0, .bool false, .slice none 0 0] 27)).cell? ⟨w.heap.size + 1, 0, none⟩ = some (.int .i64 0) ∧ ((w.alloc (.cells #[.int .i64 41, .slice none 0 0, .int .i64 0, .slice none 0 0, .int .i64 0, .slice none 0 0, .int .i64 0, .slice none 0 0, .int .i64 0, .slice none 0 0, .int .i64 16388, .slice none 0 0, .int .i64 0, .slice none 0 0, .slice none 0 0, .slice none 0 0] 45)).alloc (.cells #[.int .i64 0, .bool false, .slice none 0 0] 27)).cell? ⟨w.heap.size + 1, 1, none⟩ = some (.bool false) ∧ ((w.alloc (.cells #[.int .i64 41, .slice none 0 0, .int .i64 0, .slice none 0 0, .int .i64 0, .slice none 0 0, .int .i64 0, .slice none 0 0, .int .i64 0, .slice none 0 0, .int .i64 16388, .slice none 0 0, .int .i64 0, .slice none 0 0, .slice none 0 0, .slice none 0 0] 45)).alloc (.cells #[.int .i64 0, .bool false, .slice none 0 0] 27)).cell? ⟨w.heap.size + 1, 2, none⟩ = some (.slice none 0 0) ∧ ∀ j, ((w.alloc (.cells #[.int .i64 41, .slice none 0 0, .int .i64 0, .slice none 0 0, .int .i64 0, .slice none 0 0, .int .i64 0, .slice none 0 0, .int .i64 0, .slice none 0 0, .int .i64 16388, .slice none 0 0, .int .i64 0, .slice none 0 0, .slice none 0 0, .slice none 0 0] 45)).alloc (.cells #[.int .i64 0, .bool false, .slice none 0 0] 27)).frozen? ⟨w.heap.size + 1, j, none⟩ = false := ⟨by go_simp, by go_simp, by go_simp, by go_simp, fun j => by go_simp⟩
  have HC := hidden hc
  clear hc
  go_enter Tryz.func13, Tryz.ntmps13
  go_wp2_with (first
    | (go_at_call 29; (with_reducible refine (build_0 _).mono ?_); rintro e w1 ⟨q1, d1, rfl, hf1, hb1⟩; have HF1 := hidden hf1; have HB1 := hidden (HB.out.trans (hb1.mono HB.out.size)); have c0 := cell_below hb1 _ _ HC.out.1; have r0 := cell_below hb1 _ _ HC.out.2.1; have r1 := cell_below hb1 _ _ HC.out.2.2.1; have r2 := cell_below hb1 _ _ HC.out.2.2.2.1; have rf := fun j => (World.frozen?_of_block (a := ⟨w.heap.size + 1, j, none⟩) (hb1.block (w.heap.size + 1) (by simp))).trans (HC.out.2.2.2.2 j); have HFS := hidden (((hf1.low (grown_set w1 (w.heap.size + 1) 0 (.int .i64 41)) (by simp)).low (grown_set _ (w.heap.size + 1) 1 (.bool false)) (by simp)).low (grown_set _ (w.heap.size + 1) 2 (.slice q1 4 d1)) (by simp)); have HBS := hidden (((HB1.out.setCell (p := ⟨w.heap.size + 1, 0, none⟩) (by simp) (.int .i64 41)).setCell (p := ⟨w.heap.size + 1, 1, none⟩) (by simp) (.bool false)).setCell (p := ⟨w.heap.size + 1, 2, none⟩) (by simp) (.slice q1 4 d1)); clear hf1 hb1)
    | fail)
  refine ret_raw (g := w.heap.size + 1) (k := 41) (c := false) (x := .slice q1 4 d1) rfl rfl rfl rfl (by go_simp) (by go_simp) (by go_simp) rfl ?_
  exact ⟨_, _, rfl, HFS.out.byt, HBS.out⟩

set_option maxHeartbeats 1600000 in
set_option maxRecDepth 100000 in
theorem awake06_any (w : World) : Calls Tryz.prog 4 #[] w fun e w' => e = .returned (.bool true) ∧ Below w.heap.size w w' := by
  go_enter Tryz.func4, Tryz.ntmps4
  go_wp2_with (first
    | (go_at_call 13; (with_reducible refine (pbuild_0 _).mono ?_); rintro e w1 ⟨q1, d1, rfl, hy1, hb1⟩; have HY1 := hidden ((hy1.alloc (.cells #[.int .i64 41, .bool false, .slice q1 4 d1] 27)).alloc (.cells #[.int .u8 0, .int .u8 0, .int .u8 64, .int .u8 4] 5)); have HW1 : Hid (Byt ((w1.alloc (.cells #[.int .i64 41, .bool false, .slice q1 4 d1] 27)).alloc (.cells #[.int .u8 0, .int .u8 0, .int .u8 64, .int .u8 4] 5)) (some ⟨w1.heap.size + 1, 0, none⟩) 4 4 [0, 0, 64, 4]) := hidden (by have := four_byt (w1.alloc (.cells #[.int .i64 41, .bool false, .slice q1 4 d1] 27)) 0 0 64 4 5 (by omega) (by omega) (by omega) (by omega); simpa using this); have HB1 := hidden ((hb1.alloc hb1.size (.cells #[.int .i64 41, .bool false, .slice q1 4 d1] 27)).alloc (by have := hb1.size; simp; omega) (.cells #[.int .u8 0, .int .u8 0, .int .u8 64, .int .u8 4] 5)); clear hy1 hb1)
    | (go_at_call 14; (with_reducible refine (requal_any _ _ _ _ _ _ _ _ _ HY1.out HW1.out).mono ?_); rintro e w2 ⟨rfl, hd⟩; have HB2 := hidden (HB1.out.trans ((drew_below hd).mono HB1.out.size)); clear hd)
    | fail)
  go_ret
  exact ⟨by simp, HB2.out⟩
end Go.Proofs.YtbpmanbpmlkmnaaGreatDoor

namespace Go.Proofs.YtbpmanbpmlkmnaaGreatDoor
open Go.RowKit
set_option linter.unusedVariables false

/-- The result of a function that returns bytes, and writes nothing but the choices. -/
def Made (W w : World) (k : Nat) (e : Ending) (w' : World) : Prop := ∃ p n c ys, e = .returned (.slice p n c) ∧ Byt w' p n c ys ∧ n ≤ 9001 ∧ Cod W w' k ∧ w.grownBy w' (some k)

/-- The same, with where the bytes lie. -/
def MadeB (W w : World) (k N : Nat) (e : Ending) (w' : World) : Prop := ∃ p n c ys, e = .returned (.slice p n c) ∧ Bod w' w.heap.size p n c ys ∧ n ≤ N + 1 ∧ Cod W w' k ∧ w.grownBy w' (some k)
theorem Bod.front {w : World} {base : Nat} {p : Option Addr} {n c : Nat} {xs : List Int} (h : Bod w base p n c xs) (j : Nat) (hj : j ≤ n) : Bod w base p j c (xs.take j) := ⟨h.byt.front j hj, fun h0 => h.own (by omega)⟩

theorem or_byte_i64 (v x : Int) (h0 : 0 ≤ v) (h1 : v < 256) (h2 : 0 ≤ x) (h3 : x < 256) : bits .or .i64 (v * 256) x = v * 256 + x :=
  bits_join .i64 63 (by decide) wraps_i64 8 _ _ (by omega) (by omega) (by omega) h2 (by omega) (by omega)

set_option maxHeartbeats 1600000 in
theorem change_bod (W w : World) (k : Nat) (h : Cod W w k) (p : Option Addr) (n c : Nat) (xs : List Int) (hx : Byt w p n c xs) (hn : n ≤ 9000) :
    Calls Tryz.prog 8 #[.pointer (some ⟨k, 0, none⟩), .slice p n c] w (MadeB W w k n) := by
  obtain ⟨i0, hi, hz0, hz1, hz2⟩ := info_parts Tryz.infoByte
  have hk := h.lt
  have hbase := h.base
  have H := hidden h
  have HX := hidden hx
  clear h hx
  go_enter Tryz.func8, Tryz.ntmps8
  go_wp2_with (at_builtin; refine wpList_append_byt _ rfl _ _ 22 rfl w.heap.size 5 i0 (.int .u8 0) Tryz.underlying22 hi hz0 hz1 hz2 rfl _ _ rfl (Own.nil w w.heap.size 5) _ _ _ _ _ rfl HX.out rfl ?c1 (Nat.le_refl _) ?_)
  case c1 => first | omega | (simp; omega)
  intro v w1 hown hg
  have hl := HX.out.len
  have hcod := H.out.grown hg (by simp [Value.ownBlock]) (by simp [Value.ownBlock])
  have HG := hidden (grown_own (grown_refl w (some k)) hg (by simp [Value.ownBlock]))
  have HC := hidden hcod
  have HO := hidden hown
  clear hg hcod hown H
  go_wp2_with (go_at_call 18; refine (next_any W _ k HC.out _ ?_).mono ?_; omega)
  rintro e w2 ⟨r, rfl, r0, r1, hc, hg⟩
  have HO2 := hidden (show Own w2 w.heap.size 5 v xs from World.ownsRow.kept HO.out hg (by
    rcases hv : v.ownBlock with _ | b
    · exact Or.inl rfl
    · have := (HO.out.lt b hv).1
      exact Or.inr (by simp; omega)))
  have HC2 := hidden hc
  have HG2 := hidden (grown_trans HG.out hg)
  clear hg hc HO HC HG
  by_cases h0 : r = 0
  · subst h0
    go_wp2_with (first | (go_at_call 18; refine (next_any W _ k HC2.out _ ?_).mono ?_; omega))
    rintro e w3 ⟨x, rfl, x0, x1, hc, hg⟩
    have HO3 := hidden (show Own w3 w.heap.size 5 v xs from World.ownsRow.kept HO2.out hg (by
      rcases hv : v.ownBlock with _ | b
      · exact Or.inl rfl
      · have := (HO2.out.lt b hv).1
        exact Or.inr (by simp; omega)))
    have HC3 := hidden hc
    have HG3 := hidden (grown_trans HG2.out hg)
    clear hg hc HO2 HC2 HG2
    go_wp2_with (at_builtin; go_loud (refine wpList_append_byt _ rfl _ _ 22 rfl w.heap.size 5 i0 (.int .u8 0) Tryz.underlying22 hi hz0 hz1 hz2 rfl _ _ rfl (HO3.out.alloc _) _ _ _ _ _ rfl (one_byte _ _ x ?c0 ?c1) rfl ?c2 ?c3 ?_))
    case c0 => omega
    case c1 => rw [World.cell?_alloc_at _ _ _ _ rfl]; rfl
    case c2 => omega
    case c3 => have := HG3.out.size; simp; omega
    intro u w4 hown hg
    have HC4 := hidden ((HC3.out.alloc _).grown hg (fun e => by have := (HO3.out.lt k e.symm).1; omega) (fun j hj => by have := (HO3.out.lt j hj).1; omega))
    have HG4 := hidden (grown_own (grown_alloc_new HG3.out _) hg (fun j hj => (HO3.out.lt j hj).1))
    obtain ⟨p', c', rfl, hb⟩ := Own.bod hown rfl (rng_append HX.out.rng (by intro z hz; simp at hz; omega))
    have HB := hidden hb
    clear hg hown hb HC3 HG3 HO3
    go_wp2
    go_ret
    exact ⟨_, _, _, _, rfl, HB.out, by first | omega | (simp; omega), HC4.out, HG4.out⟩
  have e0 : (r == 0) = false := by simpa using h0
  by_cases h1 : r = 1
  · subst h1
    obtain ⟨p', c', rfl, hb⟩ := HO2.out.byt HX.out.rng
    rw [hl] at hb
    have hcap := hb.cap
    have hbig := hb.big
    unfold maxLen at hbig
    clear hb
    rw [hl] at HO2 ⊢
    go_wp2_with (first | (go_at_call 18; refine (next_any W _ k HC2.out _ ?_).mono ?_; omega))
    rintro e w3 ⟨x, rfl, x0, x1, hc, hg⟩
    obtain ⟨x, rfl⟩ := Int.eq_ofNat_of_zero_le x0
    obtain ⟨y, hy⟩ : ∃ y, y = n * x := ⟨_, rfl⟩
    have hm : (n : Int) * (x : Int) = (y : Int) := by rw [hy]; simp
    have hy8 : y ≤ n * 8 := by rw [hy]; exact Nat.mul_le_mul_left _ (by omega)
    have hq : y / 9 ≤ n := by omega
    have HO3 := hidden (show Own w3 w.heap.size 5 (.slice p' n c') xs from World.ownsRow.kept HO2.out hg (by
      rcases hv : (Value.slice p' n c').ownBlock with _ | b
      · exact Or.inl rfl
      · have := (HO2.out.lt b hv).1
        exact Or.inr (by simp; omega)))
    obtain ⟨_, _, he, hb⟩ := HO3.out.bod hl HX.out.rng
    simp at he
    obtain ⟨rfl, rfl⟩ := he
    have HB4 := hidden (hb.front (y / 9) hq)
    have HC3 := hidden hc
    have HG3 := hidden (grown_trans HG2.out hg)
    clear hg hc hb HC2 HG2 HO2 HO3 hl hy HX
    go_wp2
    go_ret
    exact ⟨_, _, _, _, rfl, HB4.out, by omega, HC3.out, HG3.out⟩
  have e1 : (r == 1) = false := by simpa using h1
  rcases Nat.eq_zero_or_pos n with hz | hp
  · obtain ⟨p', c', rfl, hb⟩ := HO2.out.bod hl HX.out.rng
    have HB := hidden hb
    clear hb HO2
    subst hz
    clear hl HX hn
    go_wp2
    go_ret
    exact ⟨_, _, _, _, rfl, HB.out, by omega, HC2.out, HG2.out⟩
  obtain ⟨g, c', rfl, hg0, hg1, hcell, hfr⟩ := HO2.out.at_ hl hp
  have hcap : n ≤ c' := by
    obtain ⟨_, _, he, hb⟩ := HO2.out.byt HX.out.rng
    rw [hl] at hb he
    simp at he
    rw [he.2]
    exact hb.cap
  go_wp2_with (first | (go_at_call 18; refine (next_any W _ k HC2.out _ ?_).mono ?_; omega))
  rintro e w3 ⟨x, rfl, x0, x1, hc, hg⟩
  have HC3 := hidden hc
  have HG3 := hidden (grown_trans HG2.out hg)
  have HO3 := hidden (show Own w3 w.heap.size 5 (.slice (some ⟨g, 0, none⟩) n c') xs from World.ownsRow.kept HO2.out hg (Or.inr (by simp [Value.ownBlock]; omega)))
  clear hg hc HC2 HG2 HO2 hcell hfr
  go_wp2_with (first | (go_at_call 18; refine (next_any W _ k HC3.out _ ?_).mono ?_; omega))
  rintro e w4 ⟨y, rfl, y0, y1, hc, hg⟩
  have HC4 := hidden hc
  have HG4 := hidden (grown_trans HG3.out hg)
  have HO4 := hidden (show Own w4 w.heap.size 5 (.slice (some ⟨g, 0, none⟩) n c') xs from World.ownsRow.kept HO3.out hg (Or.inr (by simp [Value.ownBlock]; omega)))
  clear hg hc HC3 HG3 HO3
  have hor := or_byte_i64 x y x0 x1 y0 y1
  obtain ⟨i, hi⟩ := Int.eq_ofNat_of_zero_le (show 0 ≤ (x * 256 + y).tmod n by rw [Int.tmod_eq_emod_of_nonneg (by omega)]; exact Int.emod_nonneg _ (by omega))
  have hin : i < n := by
    have := Int.tmod_lt_of_pos (x * 256 + y) (show (0 : Int) < n by omega)
    omega
  obtain ⟨_, _, he, _, _, hcell, hfr⟩ := HO4.out.at_ hl hp
  simp at he
  obtain ⟨rfl, rfl⟩ := he
  have hc4 := hcell i hin
  have hf4 := hfr i
  have hz := rng_getD HX.out.rng i
  generalize xs.getD i 0 = z at hc4 hz
  clear hcell hfr
  go_wp2
  have hgk : g ≠ k := by omega
  have hgs : g < w4.heap.size := World.block_lt_of_cell? w4 _ hc4
  have HK := hidden (fun (w5 : World) (hg5 : w4.drew.grownBy w5 (some k)) => (show w5.cell? ⟨g, i, none⟩ = some (.int .u8 z) ∧ w5.frozen? ⟨g, i, none⟩ = false from
    ⟨hg5.cell (show w4.drew.cell? ⟨g, i, none⟩ = some (.int .u8 z) from hc4) (by simp; exact hgk), (World.frozen?_of_block (a := ⟨g, i, none⟩) (hg5.block g hgs (by simp; exact hgk))).trans hf4⟩))
  have HCD := hidden (show Cod W w4.drew k from HC4.out.below (drew_below ⟨1, rfl⟩))
  have hcd : w4.drew.cell? ⟨g, i, none⟩ = some (.int .u8 z) := hc4
  have hfd : w4.drew.frozen? ⟨g, i, none⟩ = false := hf4
  go_region_with (go_at_call 18; (with_reducible refine (next_any W _ k HCD.out _ ?_).mono ?_); omega; rintro e w5 ⟨t, rfl, t0, t1, hc5, hg5⟩; have hc6 := (HK.out _ hg5).1; have hf6 := (HK.out _ hg5).2)
  all_goals
    have HO5 := hidden (show Own w5 w.heap.size 5 (.slice (some ⟨g, 0, none⟩) n c') xs from World.ownsRow.kept (HO4.out.drew) hg5 (Or.inr (by simp [Value.ownBlock]; omega)))
    have HC5 := hidden hc5
    have HG5 := hidden (grown_trans (show w.grownBy w4.drew (some k) from grown_trans HG4.out (grown_drewN w4 1 _)) hg5)
    clear hg5 hc5 HC4 HG4 HK HO4 HCD
    go_wp2
    go_ret
    obtain ⟨_, _, he, hb⟩ := Own.bod (n := n) (HO5.out.set hl i (bits BinOp.xor IntKind.u8 z (IntKind.u8.wrap (IntKind.i64.wrap (1 + t))))) ((List.length_set ..).trans hl) (rng_set HX.out.rng i ⟨bits_lo_u8 _ _ _, bits_hi_u8 _ _ _⟩)
    simp at he
    obtain ⟨rfl, rfl⟩ := he
    exact ⟨_, _, _, _, rfl, hb, by omega, HC5.out.set _ _ _ (by omega) hgk, grown_set_new HG5.out _ _ _ hg0⟩
end Go.Proofs.YtbpmanbpmlkmnaaGreatDoor

namespace Go.Proofs.YtbpmanbpmlkmnaaGreatDoor
open Go.RowKit
set_option linter.unusedVariables false

theorem mod_any (x n : Int) (w : World) (hx : -9223372036854775808 ≤ x ∧ x ≤ 9223372036854775807) (hn : 1 ≤ n ∧ n ≤ 9223372036854775807) :
    Calls Tryz.prog 9 #[.int .i64 x, .int .i64 n] w fun e w' => e = .returned (.int .i64 (x % n)) ∧ w = w' := by
  have hb := Int.tmod_lt_of_pos x (show 0 < n by omega)
  have hb2 : -n < x.tmod n := by
    have := Int.tmod_lt_of_pos (-x) (show 0 < n by omega)
    rw [Int.neg_tmod] at this
    omega
  have he : x % n = if x.tmod n < 0 then x.tmod n + n else x.tmod n := by
    have h1 := Int.mul_tdiv_add_tmod x n
    split
    · rename_i h
      have : x = (x.tmod n + n) + n * (x.tdiv n - 1) := by rw [Int.mul_sub]; omega
      rw [this, Int.add_mul_emod_self_left]
      rw [← this]
      exact Int.emod_eq_of_lt (by omega) (by omega)
    · rename_i h
      have : x = x.tmod n + n * x.tdiv n := by omega
      rw [this, Int.add_mul_emod_self_left]
      rw [← this]
      exact Int.emod_eq_of_lt (by omega) (by omega)
  rw [he]
  clear he
  by_cases h0 : 0 ≤ x
  · have e1 : x.tmod n = x % n := Int.tmod_eq_emod_of_nonneg h0
    rw [e1] at hb hb2 ⊢
    have := Int.emod_nonneg x (show n ≠ 0 by omega)
    rw [if_neg (by omega)]
    clear e1
    go_enter Tryz.func9, Tryz.ntmps9
    go_wp2
    go_ret
    exact ⟨rfl, rfl⟩
  · by_cases hneg : x.tmod n < 0
    · rw [if_pos hneg]
      go_enter Tryz.func9, Tryz.ntmps9
      go_wp2
      go_ret
      exact ⟨rfl, rfl⟩
    · rw [if_neg hneg]
      go_enter Tryz.func9, Tryz.ntmps9
      go_wp2
      go_ret
      exact ⟨rfl, rfl⟩
end Go.Proofs.YtbpmanbpmlkmnaaGreatDoor
