/-
  The example of the chapter on messages holds: awake returns true and only adds memory of its own.
-/
import Derived.Test.YtkniifopfgeopaaGreatJZ22
import Derived.Test.YtkniifopfgeopaaGreatJMkMsg
namespace Go.Proofs.YtkniifopfgeopaaGreat
open Go.RowKit
set_option linter.unusedVariables false

theorem rd_one {w : World} {g : Nat} {x : Pv} (h : PvIn w g x) (ho : NoteOk w x) : RdG KPv DPv w (some ⟨g, 0, none⟩) 1 1 [x] := by
  refine ⟨rfl, Nat.le_refl _, by decide, fun _ => ⟨g, rfl, fun j u hj => ?_⟩, fun y hy => by rw [List.mem_singleton.1 hy]; exact ho⟩
  obtain ⟨c0, c1, c2, c3, c4, c5, c6, c7, c8, c9, c10, c11, c12, c13, c14, c15, fr⟩ := h
  have hj' : ([.int .i64 x.t, .slice x.pr.p x.pr.n x.pr.c, .int .i64 x.eg, .slice x.ed.p x.ed.n x.ed.c, .int .i64 x.ik, .slice x.id.p x.id.n x.id.c, .int .i64 x.am, .slice x.ad.p x.ad.n x.ad.c, .int .i64 x.np, .slice x.ns.p x.ns.n x.ns.c, .int .i64 x.nt, .slice x.nd.p x.nd.n x.nd.c, .int .i64 x.dp, .slice x.ds.p x.ds.n x.ds.c, .slice x.se.p x.se.n x.se.c, .slice x.da.p x.da.n x.da.c] : List Value)[j]? = some u := hj
  have hl : j < 16 := by have := (List.getElem?_eq_some_iff.1 hj').1; simpa using this
  have : j = 0 ∨ j = 1 ∨ j = 2 ∨ j = 3 ∨ j = 4 ∨ j = 5 ∨ j = 6 ∨ j = 7 ∨ j = 8 ∨ j = 9 ∨ j = 10 ∨ j = 11 ∨ j = 12 ∨ j = 13 ∨ j = 14 ∨ j = 15 := by omega
  rcases this with rfl | rfl | rfl | rfl | rfl | rfl | rfl | rfl | rfl | rfl | rfl | rfl | rfl | rfl | rfl | rfl <;> (simp at hj'; subst hj'; assumption)
theorem note_plain (w : World) (t nt : Int) (ht : IntR t) (hn : IntR nt) : NoteOk w ⟨t, nilV, 0, nilV, 0, nilV, 0, nilV, 0, nilV, nt, nilV, 0, nilV, nilV, nilV⟩ :=
  ⟨ht, fun _ => ⟨[], Byt.nil _ _ _ (Nat.zero_le _)⟩, fun _ => ⟨[], Byt.nil _ _ _ (Nat.zero_le _)⟩, fun _ => Nat.zero_le _, fun _ => Nat.zero_le _⟩

theorem MIn.new (w : World) (i r nx x f m : Int) (v : Value) (T : TypeId) : MIn (w.alloc (.cells #[.int .u64 i, .int .u64 r, .int .i64 nx, .int .i64 x, .int .i64 f, .int .u32 m, v] T)) w.heap.size i r nx x f m v :=
  ⟨by rw [World.cell?_alloc_at _ _ _ _ rfl]; rfl, by rw [World.cell?_alloc_at _ _ _ _ rfl]; rfl, by rw [World.cell?_alloc_at _ _ _ _ rfl]; rfl, by rw [World.cell?_alloc_at _ _ _ _ rfl]; rfl, by rw [World.cell?_alloc_at _ _ _ _ rfl]; rfl, by rw [World.cell?_alloc_at _ _ _ _ rfl]; rfl, by rw [World.cell?_alloc_at _ _ _ _ rfl]; rfl, fun j => frozen_of_row _ _ _ _ _ (heap_alloc_new _ _)⟩

set_option maxHeartbeats 800000 in
theorem reply_missing (w : World) : Calls Tryz.prog 6 #[.int .i64 8] w fun e w' => e = .returned (.tuple #[.int .i64 7, .bool true]) ∧ w' = w := by
  go_enter Tryz.func6, Tryz.ntmps6
  go_wp2
  go_ret2
  exact ⟨rfl, rfl⟩

def venP : Pv := ⟨43, nilV, 0, nilV, 0, nilV, 0, nilV, 0, nilV, 0, nilV, 0, nilV, nilV, nilV⟩
def cooP : Pv := ⟨41, nilV, 0, nilV, 0, nilV, 0, nilV, 0, nilV, 16390, nilV, 0, nilV, nilV, nilV⟩
theorem check_ven : checkM 34 8 [venP] = 8 := by kernel_rfl
theorem check_coo : checkM 34 8 [cooP] = 0 := by kernel_rfl

set_option maxHeartbeats 1600000 in
set_option maxRecDepth 100000 in
theorem awake07_any (w : World) : Calls Tryz.prog 4 #[] w fun e w' => e = .returned (.bool true) ∧ Below w.heap.size w w' := by
  have HRP := hidden (fun W => reply_missing W)
  go_enter Tryz.func4, Tryz.ntmps4
  go_upto_region 2 with fail
  generalize hw1 : (w.alloc (.cells _ 59)).alloc (.cells _ 39) = w1
  have hv1 : PvIn w1 w.heap.size venP := by
    rw [← hw1]
    exact (PvIn.new w venP 59).alloc _
  have hm1 : MIn w1 (w.heap.size + 1) 1 0 0 34 8 0 (.slice (some ⟨w.heap.size, 0, none⟩) 1 1) := by
    have := MIn.new (w.alloc (.cells #[.int .i64 venP.t, .slice venP.pr.p venP.pr.n venP.pr.c, .int .i64 venP.eg, .slice venP.ed.p venP.ed.n venP.ed.c, .int .i64 venP.ik, .slice venP.id.p venP.id.n venP.id.c, .int .i64 venP.am, .slice venP.ad.p venP.ad.n venP.ad.c, .int .i64 venP.np, .slice venP.ns.p venP.ns.n venP.ns.c, .int .i64 venP.nt, .slice venP.nd.p venP.nd.n venP.nd.c, .int .i64 venP.dp, .slice venP.ds.p venP.ds.n venP.ds.c, .slice venP.se.p venP.se.n venP.se.c, .slice venP.da.p venP.da.n venP.da.c] 59)) 1 0 0 34 8 0 (.slice (some ⟨w.heap.size, 0, none⟩) 1 1) 39
    rw [World.size_alloc] at this
    rw [← hw1]
    exact this
  have hb1 : Below w.heap.size w w1 := by
    rw [← hw1]
    exact ((Below.refl _ w).alloc (Nat.le_refl _) _).alloc (by simp) _
  have hne : ¬ w.heap.size + 1 = w.heap.size := by omega
  have hck := check_any 1 0 0 34 8 0 _ 1 1 [venP] w1 (rd_one hv1 (note_plain w1 43 0 (by unfold IntR; omega) (by unfold IntR; omega))) (by omega) (by unfold IntR; omega)
  rw [check_ven] at hck
  have HCK := hidden hck
  have HV1 := hidden hv1
  have HM1 := hidden hm1
  have HB1 := hidden hb1
  clear hw1 hck
  obtain ⟨m0, m1, m2, m3, m4, m5, m6, mf⟩ := hm1
  clear hv1 hb1
  go_upto_region 3 with (first
    | (go_at_call 13; (with_reducible refine (HCK.out).mono ?_); rintro e w2 ⟨rfl, hb2⟩; have HB2 := hidden hb2; clear hb2)
    | (go_at_call 6; (with_reducible refine (HRP.out w2).mono ?_); rintro e w3 ⟨rfl, rfl⟩)
    | fail)
  have hv2 := HV1.out.below HB2.out
  have hm2 := HM1.out.below HB2.out
  have hb2 := HB1.out.trans (HB2.out.mono HB1.out.size)
  have hset := setPv_in hv2 cooP
  have hgs := setPv_grown w3 w.heap.size cooP
  have hms := hm2.grown hgs (by simp)
  have hbs := hb2.grown hgs hb2.size (fun q e => by cases e; exact Nat.le_refl _)
  have hck2 := check_any 1 0 0 34 8 0 _ 1 1 [cooP] _ (rd_one hset (note_plain _ 41 16390 (by unfold IntR; omega) (by unfold IntR; omega))) (by omega) (by unfold IntR; omega)
  rw [check_coo] at hck2
  obtain ⟨y0, y1, y2, y3, y4, y5, y6, y7, y8, y9, y10, y11, y12, y13, y14, y15, z0, z1, z2, z3, z4, z5, z6, z7, z8, z9, z10, z11, z12, z13, z14, z15, zf⟩ := hv2.any
  have n6 := hm2.c6
  have HMS := hidden hms
  have HBS := hidden hbs
  have HCK2 := hidden hck2
  clear m0 m1 m2 m3 m4 m5 m6 mf hms hbs hck2 hset hgs hm2 hb2 HCK HV1 HM1 HB1 HB2 hv2
  go_upto_region 4 with fail
  generalize hwx : (World.setCell _ ⟨w.heap.size, 15, none⟩ _) = wx
  have hwx' : setPv w3 w.heap.size cooP = wx := hwx
  rw [hwx'] at HMS HBS HCK2
  obtain ⟨m0, m1, m2, m3, m4, m5, m6, mf⟩ := HMS.out
  clear y0 y1 y2 y3 y4 y5 y6 y7 y8 y9 y10 y11 y12 y13 y14 y15 z0 z1 z2 z3 z4 z5 z6 z7 z8 z9 z10 z11 z12 z13 z14 z15 zf n6 hwx hwx' mf
  go_wp2_with (first
    | (go_at_call 13; (with_reducible refine (HCK2.out).mono ?_); rintro e w4 ⟨rfl, hb4⟩; have HB4 := hidden hb4; clear hb4)
    | fail)
  go_ret
  exact ⟨rfl, HBS.out.trans (HB4.out.mono HBS.out.size)⟩
end Go.Proofs.YtkniifopfgeopaaGreat
