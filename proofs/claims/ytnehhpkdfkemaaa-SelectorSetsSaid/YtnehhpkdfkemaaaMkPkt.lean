/-
  The packet that a list of choices makes.
-/
import Derived.Test.YtnehhpkdfkemaaaSelLaws
namespace Go.Proofs.Ytnehhpkdfkemaaa
open Go.RowKit
set_option linter.unusedVariables false

/-- A packet. -/
structure Pk where
  s : Ad
  t : Ad
  p : Int
  u : Int
  v : Int
structure PkIn (w : World) (g : Nat) (x : Pk) : Prop where
  c0 : w.cell? ⟨g, 0, none⟩ = some (.int .i64 x.s.f)
  c1 : w.cell? ⟨g, 1, none⟩ = some (.int .u64 x.s.h)
  c2 : w.cell? ⟨g, 2, none⟩ = some (.int .u64 x.s.l)
  c3 : w.cell? ⟨g, 3, none⟩ = some (.int .i64 x.t.f)
  c4 : w.cell? ⟨g, 4, none⟩ = some (.int .u64 x.t.h)
  c5 : w.cell? ⟨g, 5, none⟩ = some (.int .u64 x.t.l)
  c6 : w.cell? ⟨g, 6, none⟩ = some (.int .i64 x.p)
  c7 : w.cell? ⟨g, 7, none⟩ = some (.int .i64 x.u)
  c8 : w.cell? ⟨g, 8, none⟩ = some (.int .i64 x.v)
  fr : ∀ j, w.frozen? ⟨g, j, none⟩ = false
section
variable {w w' : World} {g : Nat} {x : Pk}
theorem PkIn.lt (h : PkIn w g x) : g < w.heap.size := World.block_lt_of_cell? w _ h.c0
theorem PkIn.grown {row : Option Nat} (h : PkIn w g x) (hg : w.grownBy w' row) (hne : some g ≠ row) : PkIn w' g x :=
  ⟨hg.cell h.c0 hne, hg.cell h.c1 hne, hg.cell h.c2 hne, hg.cell h.c3 hne, hg.cell h.c4 hne, hg.cell h.c5 hne, hg.cell h.c6 hne, hg.cell h.c7 hne, hg.cell h.c8 hne, fun j => (World.frozen?_of_block (a := ⟨g, j, none⟩) (hg.block g h.lt hne)).trans (h.fr j)⟩
theorem PkIn.below (h : PkIn w g x) (hb : Below w.heap.size w w') : PkIn w' g x := h.grown (row := none) (grown_of_below hb none) (by simp)
theorem PkIn.alloc (h : PkIn w g x) (b : Obj) : PkIn (w.alloc b) g x := h.below ((Below.refl _ _).alloc (Nat.le_refl _) b)
theorem PkIn.new (w : World) (x : Pk) (T : TypeId) : PkIn (w.alloc (.cells #[.int .i64 x.s.f, .int .u64 x.s.h, .int .u64 x.s.l, .int .i64 x.t.f, .int .u64 x.t.h, .int .u64 x.t.l, .int .i64 x.p, .int .i64 x.u, .int .i64 x.v] T)) w.heap.size x := ⟨by go_simp, by go_simp, by go_simp, by go_simp, by go_simp, by go_simp, by go_simp, by go_simp, by go_simp, fun j => by go_simp⟩
theorem PkIn.set_ne (h : PkIn w g x) (g' j : Nat) (v : Value) (hne : g ≠ g') : PkIn (w.setCell ⟨g', j, none⟩ v) g x := h.grown (grown_set w g' j v) (by simp; exact hne)
theorem PkIn.setU (h : PkIn w g x) (z : Int) : PkIn (w.setCell ⟨g, 7, none⟩ (.int .i64 z)) g { x with u := z } := by
  obtain ⟨c0, c1, c2, c3, c4, c5, c6, c7, c8, fr⟩ := h
  exact ⟨by go_simp, by go_simp, by go_simp, by go_simp, by go_simp, by go_simp, by go_simp, by go_simp, by go_simp, fun j => by rw [World.frozen?_setCell]; exact fr j⟩
theorem PkIn.setV (h : PkIn w g x) (z : Int) : PkIn (w.setCell ⟨g, 8, none⟩ (.int .i64 z)) g { x with v := z } := by
  obtain ⟨c0, c1, c2, c3, c4, c5, c6, c7, c8, fr⟩ := h
  exact ⟨by go_simp, by go_simp, by go_simp, by go_simp, by go_simp, by go_simp, by go_simp, by go_simp, by go_simp, fun j => by rw [World.frozen?_setCell]; exact fr j⟩
theorem load_pk (h : PkIn w g x) : (loadVar 71 ⟨g, 0, none⟩).run Try.prog w = .ok (.agg #[.int .i64 x.s.f, .int .u64 x.s.h, .int .u64 x.s.l, .int .i64 x.t.f, .int .u64 x.t.h, .int .u64 x.t.l, .int .i64 x.p, .int .i64 x.u, .int .i64 x.v]) w := by
  obtain ⟨c0, c1, c2, c3, c4, c5, c6, c7, c8, fr⟩ := h
  simp [loadVar, go_sem, c0, c1, c2, c3, c4, c5, c6, c7, c8, Result.andThen]
end
theorem ret_pk {fn : Func} {R : Ending → World → Prop} {a : Act} {w : World} {p : Nat} {g : Nat} {x : Pk} (h : fn.results = #[.cell p 71]) (hp : a.tmps.getD p undef = .pointer (some ⟨g, 0, none⟩)) (hd : a.defers = [])
    (hh : PkIn w g x) (hR : R (.returned (.agg #[.int .i64 x.s.f, .int .u64 x.s.h, .int .u64 x.s.l, .int .i64 x.t.f, .int .u64 x.t.h, .int .u64 x.t.l, .int .i64 x.p, .int .i64 x.u, .int .i64 x.v])) w) : bodyPost Try.prog fn R .ret a w := by
  refine bodyPost_ret (v := (.agg #[.int .i64 x.s.f, .int .u64 x.s.h, .int .u64 x.s.l, .int .i64 x.t.f, .int .u64 x.t.h, .int .u64 x.t.l, .int .i64 x.p, .int .i64 x.u, .int .i64 x.v])) ?_ hd hR
  rw [Array.getD_eq_getD_getElem?] at hp
  simp [results, h, hp, asAddr, load_pk hh]
def zeroP : Pk := ⟨zeroA, zeroA, 0, 0, 0⟩
/-- Where Packet stands: its result, its own packet at block g. -/
structure DPk (W w wx : World) (k g : Nat) (x : Pk) : Prop where
  cod : Cod W wx k
  gr : w.grownBy wx (some k)
  ge : w.heap.size < g
  R : PkIn wx w.heap.size zeroP
  S : PkIn wx g x
section
variable {W w wx wy : World} {k g : Nat} {x : Pk}
theorem DPk.grown (h : DPk W w wx k g x) (hk : k < w.heap.size) (hc : Cod W wy k) (hg : wx.grownBy wy (some k)) : DPk W w wy k g x :=
  ⟨hc, grown_trans h.gr hg, h.ge, h.R.grown hg (by simp; omega), h.S.grown hg (by have := h.ge; simp; omega)⟩
theorem DPk.setU (h : DPk W w wx k g x) (hb : W.heap.size ≤ w.heap.size) (hk : k < w.heap.size) (z : Int) : DPk W w (wx.setCell ⟨g, 7, none⟩ (.int .i64 z)) k g { x with u := z } := by
  have := h.ge
  exact ⟨h.cod.set _ _ _ (by omega) (by omega), grown_set_new h.gr _ _ _ (by omega), h.ge, h.R.set_ne _ _ _ (by omega), h.S.setU z⟩
theorem DPk.setV (h : DPk W w wx k g x) (hb : W.heap.size ≤ w.heap.size) (hk : k < w.heap.size) (z : Int) : DPk W w (wx.setCell ⟨g, 8, none⟩ (.int .i64 z)) k g { x with v := z } := by
  have := h.ge
  exact ⟨h.cod.set _ _ _ (by omega) (by omega), grown_set_new h.gr _ _ _ (by omega), h.ge, h.R.set_ne _ _ _ (by omega), h.S.setV z⟩
theorem DPk.ret (h : DPk W w wx k g x) (hb : W.heap.size ≤ w.heap.size) (hk : k < w.heap.size) : PkIn (((((((((wx.setCell ⟨w.heap.size, 0, none⟩ (.int .i64 x.s.f)).setCell ⟨w.heap.size, 1, none⟩ (.int .u64 x.s.h)).setCell ⟨w.heap.size, 2, none⟩ (.int .u64 x.s.l)).setCell ⟨w.heap.size, 3, none⟩ (.int .i64 x.t.f)).setCell ⟨w.heap.size, 4, none⟩ (.int .u64 x.t.h)).setCell ⟨w.heap.size, 5, none⟩ (.int .u64 x.t.l)).setCell ⟨w.heap.size, 6, none⟩ (.int .i64 x.p)).setCell ⟨w.heap.size, 7, none⟩ (.int .i64 x.u)).setCell ⟨w.heap.size, 8, none⟩ (.int .i64 x.v)) w.heap.size x ∧ Cod W (((((((((wx.setCell ⟨w.heap.size, 0, none⟩ (.int .i64 x.s.f)).setCell ⟨w.heap.size, 1, none⟩ (.int .u64 x.s.h)).setCell ⟨w.heap.size, 2, none⟩ (.int .u64 x.s.l)).setCell ⟨w.heap.size, 3, none⟩ (.int .i64 x.t.f)).setCell ⟨w.heap.size, 4, none⟩ (.int .u64 x.t.h)).setCell ⟨w.heap.size, 5, none⟩ (.int .u64 x.t.l)).setCell ⟨w.heap.size, 6, none⟩ (.int .i64 x.p)).setCell ⟨w.heap.size, 7, none⟩ (.int .i64 x.u)).setCell ⟨w.heap.size, 8, none⟩ (.int .i64 x.v)) k ∧ w.grownBy (((((((((wx.setCell ⟨w.heap.size, 0, none⟩ (.int .i64 x.s.f)).setCell ⟨w.heap.size, 1, none⟩ (.int .u64 x.s.h)).setCell ⟨w.heap.size, 2, none⟩ (.int .u64 x.s.l)).setCell ⟨w.heap.size, 3, none⟩ (.int .i64 x.t.f)).setCell ⟨w.heap.size, 4, none⟩ (.int .u64 x.t.h)).setCell ⟨w.heap.size, 5, none⟩ (.int .u64 x.t.l)).setCell ⟨w.heap.size, 6, none⟩ (.int .i64 x.p)).setCell ⟨w.heap.size, 7, none⟩ (.int .i64 x.u)).setCell ⟨w.heap.size, 8, none⟩ (.int .i64 x.v)) (some k) := by
  refine ⟨?_, (((((((((h.cod.set _ _ _ (by omega) (by omega)).set _ _ _ (by omega) (by omega)).set _ _ _ (by omega) (by omega)).set _ _ _ (by omega) (by omega)).set _ _ _ (by omega) (by omega)).set _ _ _ (by omega) (by omega)).set _ _ _ (by omega) (by omega)).set _ _ _ (by omega) (by omega)).set _ _ _ (by omega) (by omega)), (grown_set_new (grown_set_new (grown_set_new (grown_set_new (grown_set_new (grown_set_new (grown_set_new (grown_set_new (grown_set_new h.gr _ _ _ (by omega)) _ _ _ (by omega)) _ _ _ (by omega)) _ _ _ (by omega)) _ _ _ (by omega)) _ _ _ (by omega)) _ _ _ (by omega)) _ _ _ (by omega)) _ _ _ (by omega))⟩
  obtain ⟨c0, c1, c2, c3, c4, c5, c6, c7, c8, fr⟩ := h.R
  exact ⟨by go_simp, by go_simp, by go_simp, by go_simp, by go_simp, by go_simp, by go_simp, by go_simp, by go_simp, fun j => by simp only [World.frozen?_setCell]; exact fr j⟩
end

set_option maxHeartbeats 1600000 in
set_option maxRecDepth 100000 in
theorem port_any (W w : World) (k : Nat) (h : Cod W w k) :
    Calls Try.prog 73 #[.pointer (some ⟨k, 0, none⟩)] w fun e w' => ∃ r : Int, e = .returned (.int .i64 r) ∧ 0 ≤ r ∧ r ≤ 65535 ∧ Cod W w' k ∧ w.grownBy w' (some k) := by
  have hk := h.lt
  have hbase := h.bel.size
  have H0 := hidden h
  have HD := hidden (h.below (w' := w.drew) (drew_below ⟨1, rfl⟩))
  clear h
  go_enter Try.func73, Try.ntmps73
  go_upto_region 1 with fail
  go_region_with (first
    | (go_at_call_of 16 (Value.int IntKind.i64 5); (with_reducible refine (next_any W _ k ?_ _ ?_).mono ?_); (first | exact HD.out | exact HD.out.alloc _ | exact (H0.out.alloc _).below (drew_below ⟨1, rfl⟩)); omega; rintro e wA ⟨j, rfl, j0, j1, hcA, hgA⟩; obtain ⟨j, rfl⟩ := Int.eq_ofNat_of_zero_le j0; obtain ⟨t, hta, htl, t0, t1⟩ := po5 j (by omega); have hGA : w.grownBy wA (some k) := (by first | exact grown_trans (grown_drewN w 1 _) hgA | exact grown_trans (grown_trans (grown_drewN w 1 _) (World.grownBy_alloc _ _ _)) hgA | exact grown_trans (grown_trans (World.grownBy_alloc w _ _) (grown_drewN _ 1 _)) hgA); have hkA : k < wA.heap.size := hcA.lt; (try have hcI : wA.cell? ⟨w.heap.size, j, none⟩ = some (.int .i64 t) := row_cell w.drew wA k _ _ j _ htl (by simp; omega) hgA); (try have hcI : wA.cell? ⟨w.heap.size, j, none⟩ = some (.int .i64 t) := row_cell w wA k _ _ j _ htl hk (grown_trans (grown_drewN _ 1 _) hgA)))
    | (go_at_call_of 16 (Value.int IntKind.i64 6); (with_reducible refine (next_any W _ k ?_ _ ?_).mono ?_); (first | exact hcA | exact hcA.alloc _); omega; rintro e wD ⟨v, rfl, v0, v1, hcD, hgD⟩; have hw2 : IntKind.i64.wrap (t + v) = t + v := (by rw [IntKind.wrap_i64]; omega); have hGD : w.grownBy wD (some k) := (by first | exact grown_trans hGA hgD | exact grown_trans hGA (grown_trans (World.grownBy_alloc _ _ _) hgD)); (try have hcJ : wD.cell? ⟨w.heap.size, j, none⟩ = some (.int .i64 t) := hgD.cell hcI (by simp; omega)); (try have hcK : wD.cell? ⟨wA.heap.size, j, none⟩ = some (.int .i64 t) := row_cell wA wD k _ _ j _ htl hkA hgD))
    | fail)
  all_goals go_wp2_with fail
  all_goals go_ret
  all_goals refine ⟨t + v, ?_, by omega, by omega, ?_, ?_⟩
  all_goals first
    | exact hcD
    | exact hcD.alloc _
    | exact hGD
    | exact grown_alloc_new hGD _
    | rfl
    | (simp [hw2]; done)
    | fail

theorem pk8 (j : Nat) (hj : j < 8) : ∃ t : Int, (#[Value.int .i64 6, .int .i64 17, .int .i64 1, .int .i64 58, .int .i64 0, .int .i64 255, .int .i64 8, .int .i64 3] : Array Value)[j]? = some (.int .i64 t) ∧ ([Value.int .i64 6, .int .i64 17, .int .i64 1, .int .i64 58, .int .i64 0, .int .i64 255, .int .i64 8, .int .i64 3] : List Value)[j]? = some (.int .i64 t) ∧ 0 ≤ t ∧ t ≤ 255 := by
  have : j = 0 ∨ j = 1 ∨ j = 2 ∨ j = 3 ∨ j = 4 ∨ j = 5 ∨ j = 6 ∨ j = 7 := by omega
  rcases this with rfl | rfl | rfl | rfl | rfl | rfl | rfl | rfl
  all_goals exact ⟨_, rfl, rfl, by omega, by omega⟩

/-- What Packet returns. -/
def MadeP (W w : World) (k : Nat) (e : Ending) (w' : World) : Prop := ∃ x : Pk, e = .returned (.agg #[.int .i64 x.s.f, .int .u64 x.s.h, .int .u64 x.s.l, .int .i64 x.t.f, .int .u64 x.t.h, .int .u64 x.t.l, .int .i64 x.p, .int .i64 x.u, .int .i64 x.v]) ∧ FitA x.s ∧ (0 ≤ x.p ∧ x.p ≤ 255) ∧ (-1 ≤ x.u ∧ x.u ≤ 65535) ∧ Cod W w' k ∧ w.grownBy w' (some k)

set_option maxHeartbeats 3200000 in
set_option maxRecDepth 100000 in
theorem packet_any (W w : World) (k : Nat) (h : Cod W w k) :
    Calls Try.prog 44 #[.pointer (some ⟨k, 0, none⟩)] w (MadeP W w k) := by
  have hk := h.lt
  have hbase := h.bel.size
  have HC0 := hidden (h.alloc (.cells #[.int .i64 0, .int .u64 0, .int .u64 0, .int .i64 0, .int .u64 0, .int .u64 0, .int .i64 0, .int .i64 0, .int .i64 0] 71))
  have HR0 := hidden (PkIn.new w zeroP 71)
  have HG0 := hidden (World.grownBy_alloc w (.cells #[.int .i64 0, .int .u64 0, .int .u64 0, .int .i64 0, .int .u64 0, .int .u64 0, .int .i64 0, .int .i64 0, .int .i64 0] 71) (some k))
  clear h
  go_enter Try.func44, Try.ntmps44
  go_upto_if 7 with (first
    | (go_at_call_of 16 (Value.int IntKind.i64 4); (with_reducible refine (next_any W _ k HC0.out _ ?_).mono ?_); omega; rintro e w1 ⟨r, rfl, r0, r1, hc, hg⟩; have HC1 := hidden hc; have HR1 : Hid (PkIn w1 w.heap.size zeroP) := hidden (HR0.out.grown hg (by simp; omega)); have HG1 := hidden (grown_trans HG0.out hg); clear hc hg HC0 HR0 HG0)
    | fail)
  go_cut [3] from 7 to 8 (fun fv wx => ∃ f : Int, fv = .int .i64 f ∧ (f = 4 ∨ f = 6) ∧ w1 = wx)
  case first =>
    rcases hr : (r == 3) with _ | _
    · go_wp2
      go_meet
      case rel => exact ⟨4, rfl, Or.inl rfl, rfl⟩
    · go_wp2
      go_meet
      case rel => exact ⟨6, rfl, Or.inr rfl, rfl⟩
  case rest =>
    obtain ⟨f, rfl, hf, rfl⟩ := hcut
    have HAD := hidden (fun w' (hc : Cod W w' k) => addr_any W w' k hc f hf)
    go_upto_region 6 with (first
      | (go_at_call 34; (with_reducible refine (HAD.out _ HC1.out).mono ?_); rintro e w2 ⟨s, rfl, hs, hc, hg⟩; have HS := hidden hs.fit; have HC2 := hidden hc; have HR2 : Hid (PkIn w2 w.heap.size zeroP) := hidden (HR1.out.grown hg (by simp; omega)); have HG2 := hidden (grown_trans HG1.out hg); clear hs hc hg HC1 HR1 HG1)
      | (go_at_call 34; (with_reducible refine (HAD.out _ HC2.out).mono ?_); rintro e w3 ⟨t, rfl, ht, hc, hg⟩; have HC3 := hidden (hc.alloc (.cells ([Value.int .i64 6, .int .i64 17, .int .i64 1, .int .i64 58, .int .i64 0, .int .i64 255, .int .i64 8, .int .i64 3] : List Value).toArray 3)); have HR3 : Hid (PkIn w3 w.heap.size zeroP) := hidden (HR2.out.grown hg (by simp; omega)); have HG3 := hidden (grown_trans HG2.out hg); have hk3 := hc.lt; clear ht hc hg HC2 HR2 HG2)
      | (go_at_call_of 16 (Value.int IntKind.i64 8); (with_reducible refine (next_any W _ k HC3.out _ ?_).mono ?_); omega; rintro e w4 ⟨j, rfl, j0, j1, hc, hg⟩; obtain ⟨j, rfl⟩ := Int.eq_ofNat_of_zero_le j0; obtain ⟨p, hta, htl, p0, p1⟩ := pk8 j (by omega); have hcI := row_cell _ w4 k _ _ j _ htl hk3 hg; have H4 := hidden (show DPk W w (w4.alloc (.cells #[.int .i64 s.f, .int .u64 s.h, .int .u64 s.l, .int .i64 t.f, .int .u64 t.h, .int .u64 t.l, .int .i64 p, .int .i64 (-1), .int .i64 (-1)] 71)) k w4.heap.size ⟨s, t, p, -1, -1⟩ from ⟨hc.alloc _, grown_alloc_new (grown_trans (grown_alloc_new HG3.out _) hg) _, by have := HG3.out.size; have := hg.size; have := HR3.out.lt; simp at *; omega, ((HR3.out.alloc _).grown hg (by simp; omega)).alloc _, PkIn.new w4 ⟨s, t, p, -1, -1⟩ _⟩); clear hc hg HC3 HR3 HG3)
      | (go_at_call_of 16 (Value.int IntKind.i64 4); (with_reducible refine (next_any W _ k H4.out.cod _ ?_).mono ?_); omega; rintro e w5 ⟨r2, rfl, r2l, r2h, hc, hg⟩; have H5 := hidden (H4.out.grown hk hc hg); clear hc hg H4)
      | fail)
    generalize w4.heap.size = g at *
    have hg0 := H5.out.ge
    have n1 : ¬ w.heap.size = g := by omega
    have n2 : ¬ g = w.heap.size := by omega
    have hr2 : r2 = 0 ∨ r2 = 1 ∨ ((r2 == 0) = false ∧ (r2 == 1) = false) := by simp; omega
    rcases hr2 with rfl | rfl | ⟨k1, k2⟩
    · obtain ⟨s0, s1, s2, s3, s4, s5, s6, s7, s8, sf⟩ := H5.out.S
      obtain ⟨q0, q1, q2, q3, q4, q5, q6, q7, q8, qf⟩ := H5.out.R
      go_wp2
      obtain ⟨z1, z2, z3⟩ := H5.out.ret hbase hk
      refine ret_pk (g := w.heap.size) (x := ⟨s, t, p, -1, -1⟩) rfl rfl rfl z1 ?_
      exact ⟨_, rfl, HS.out, ⟨p0, p1⟩, ⟨by simp, by simp⟩, z2, z3⟩
    · go_wp2_with (first
        | (go_at_call 73; (with_reducible refine (port_any W _ k H5.out.cod).mono ?_); rintro e w6 ⟨u, rfl, u0, u1, hc, hg⟩; have H6 := hidden (H5.out.grown hk hc hg); obtain ⟨s0, s1, s2, s3, s4, s5, s6, s7, s8, sf⟩ := H6.out.S; obtain ⟨q0, q1, q2, q3, q4, q5, q6, q7, q8, qf⟩ := H6.out.R; clear hc hg H5)
        | fail)
      obtain ⟨z1, z2, z3⟩ := (H6.out.setU hbase hk u).ret hbase hk
      refine ret_pk (g := w.heap.size) (x := ⟨s, t, p, u, -1⟩) rfl rfl rfl z1 ?_
      exact ⟨_, rfl, HS.out, ⟨p0, p1⟩, ⟨by simp; omega, u1⟩, z2, z3⟩
    · go_wp2_with (first
        | (go_at_call 73; (with_reducible refine (port_any W _ k H5.out.cod).mono ?_); rintro e w6 ⟨u, rfl, u0, u1, hc, hg⟩; have H6 := hidden (H5.out.grown hk hc hg); clear hc hg H5)
        | (go_at_call 73; (with_reducible refine (port_any W _ k H6.out.cod).mono ?_); rintro e w7 ⟨v, rfl, v0, v1, hc, hg⟩; have H7 := hidden (H6.out.grown hk hc hg); obtain ⟨s0, s1, s2, s3, s4, s5, s6, s7, s8, sf⟩ := H7.out.S; obtain ⟨q0, q1, q2, q3, q4, q5, q6, q7, q8, qf⟩ := H7.out.R; clear hc hg H6)
        | fail)
      obtain ⟨z1, z2, z3⟩ := ((H7.out.setU hbase hk u).setV hbase hk v).ret hbase hk
      refine ret_pk (g := w.heap.size) (x := ⟨s, t, p, u, v⟩) rfl rfl rfl z1 ?_
      exact ⟨_, rfl, HS.out, ⟨p0, p1⟩, ⟨by simp; omega, u1⟩, z2, z3⟩
end Go.Proofs.Ytnehhpkdfkemaaa
