/-
  The selector that a list of choices makes: it is good, and of the family that is asked for.
-/
import Derived.Test.YtbpmanbpmlkmnaaGreatDoorMZ3
namespace Go.Proofs.YtbpmanbpmlkmnaaGreatDoor
open Go.RowKit
set_option linter.unusedVariables false

/-- A selector as it is drawn. -/
structure DrawS (f : Int) (s : Sl) : Prop where
  good : GoodS s
  fam : s.lo.f = f
/-- Where Selector stands: its result, its own selector at block g. -/
structure DSl (W w wx : World) (k g : Nat) (s : Sl) : Prop where
  cod : Cod W wx k
  gr : w.grownBy wx (some k)
  ge : w.heap.size < g
  R : SlIn wx w.heap.size zeroS
  S : SlIn wx g s
section
variable {W w wx wy : World} {k g : Nat} {s : Sl}
theorem DSl.grown (h : DSl W w wx k g s) (hk : k < w.heap.size) (hc : Cod W wy k) (hg : wx.grownBy wy (some k)) : DSl W w wy k g s :=
  ⟨hc, grown_trans h.gr hg, h.ge, h.R.grown hg (by simp; omega), h.S.grown hg (by have := h.ge; simp; omega)⟩
theorem DSl.alloc (h : DSl W w wx k g s) (o : Obj) : DSl W w (wx.alloc o) k g s := ⟨h.cod.alloc o, grown_alloc_new h.gr o, h.ge, h.R.alloc o, h.S.alloc o⟩
theorem DSl.setA (h : DSl W w wx k g s) (hb : W.heap.size ≤ w.heap.size) (hk : k < w.heap.size) (z : Int) : DSl W w (wx.setCell ⟨g, 1, none⟩ (.int .i64 z)) k g { s with a := z } := by
  have := h.ge
  exact ⟨h.cod.set _ _ _ (by omega) (by omega), grown_set_new h.gr _ _ _ (by omega), h.ge, h.R.set_ne _ _ _ (by omega), h.S.setA z⟩
theorem DSl.setB (h : DSl W w wx k g s) (hb : W.heap.size ≤ w.heap.size) (hk : k < w.heap.size) (z : Int) : DSl W w (wx.setCell ⟨g, 2, none⟩ (.int .i64 z)) k g { s with b := z } := by
  have := h.ge
  exact ⟨h.cod.set _ _ _ (by omega) (by omega), grown_set_new h.gr _ _ _ (by omega), h.ge, h.R.set_ne _ _ _ (by omega), h.S.setB z⟩
theorem DSl.setLo (h : DSl W w wx k g s) (hb : W.heap.size ≤ w.heap.size) (hk : k < w.heap.size) (z : Ad) : DSl W w (((wx.setCell ⟨g, 3, none⟩ (.int .i64 z.f)).setCell ⟨g, 4, none⟩ (.int .u64 z.h)).setCell ⟨g, 5, none⟩ (.int .u64 z.l)) k g { s with lo := z } := by
  have := h.ge
  exact ⟨((h.cod.set _ _ _ (by omega) (by omega)).set _ _ _ (by omega) (by omega)).set _ _ _ (by omega) (by omega), grown_set_new (grown_set_new (grown_set_new h.gr _ _ _ (by omega)) _ _ _ (by omega)) _ _ _ (by omega), h.ge, ((h.R.set_ne _ _ _ (by omega)).set_ne _ _ _ (by omega)).set_ne _ _ _ (by omega), h.S.setLo z⟩
theorem DSl.setHi (h : DSl W w wx k g s) (hb : W.heap.size ≤ w.heap.size) (hk : k < w.heap.size) (z : Ad) : DSl W w (((wx.setCell ⟨g, 6, none⟩ (.int .i64 z.f)).setCell ⟨g, 7, none⟩ (.int .u64 z.h)).setCell ⟨g, 8, none⟩ (.int .u64 z.l)) k g { s with hi := z } := by
  have := h.ge
  exact ⟨((h.cod.set _ _ _ (by omega) (by omega)).set _ _ _ (by omega) (by omega)).set _ _ _ (by omega) (by omega), grown_set_new (grown_set_new (grown_set_new h.gr _ _ _ (by omega)) _ _ _ (by omega)) _ _ _ (by omega), h.ge, ((h.R.set_ne _ _ _ (by omega)).set_ne _ _ _ (by omega)).set_ne _ _ _ (by omega), h.S.setHi z⟩
theorem DSl.ret (h : DSl W w wx k g s) (hb : W.heap.size ≤ w.heap.size) (hk : k < w.heap.size) : SlIn (((((((((wx.setCell ⟨w.heap.size, 0, none⟩ (.int .i64 s.p)).setCell ⟨w.heap.size, 1, none⟩ (.int .i64 s.a)).setCell ⟨w.heap.size, 2, none⟩ (.int .i64 s.b)).setCell ⟨w.heap.size, 3, none⟩ (.int .i64 s.lo.f)).setCell ⟨w.heap.size, 4, none⟩ (.int .u64 s.lo.h)).setCell ⟨w.heap.size, 5, none⟩ (.int .u64 s.lo.l)).setCell ⟨w.heap.size, 6, none⟩ (.int .i64 s.hi.f)).setCell ⟨w.heap.size, 7, none⟩ (.int .u64 s.hi.h)).setCell ⟨w.heap.size, 8, none⟩ (.int .u64 s.hi.l)) w.heap.size s ∧ Cod W (((((((((wx.setCell ⟨w.heap.size, 0, none⟩ (.int .i64 s.p)).setCell ⟨w.heap.size, 1, none⟩ (.int .i64 s.a)).setCell ⟨w.heap.size, 2, none⟩ (.int .i64 s.b)).setCell ⟨w.heap.size, 3, none⟩ (.int .i64 s.lo.f)).setCell ⟨w.heap.size, 4, none⟩ (.int .u64 s.lo.h)).setCell ⟨w.heap.size, 5, none⟩ (.int .u64 s.lo.l)).setCell ⟨w.heap.size, 6, none⟩ (.int .i64 s.hi.f)).setCell ⟨w.heap.size, 7, none⟩ (.int .u64 s.hi.h)).setCell ⟨w.heap.size, 8, none⟩ (.int .u64 s.hi.l)) k ∧ w.grownBy (((((((((wx.setCell ⟨w.heap.size, 0, none⟩ (.int .i64 s.p)).setCell ⟨w.heap.size, 1, none⟩ (.int .i64 s.a)).setCell ⟨w.heap.size, 2, none⟩ (.int .i64 s.b)).setCell ⟨w.heap.size, 3, none⟩ (.int .i64 s.lo.f)).setCell ⟨w.heap.size, 4, none⟩ (.int .u64 s.lo.h)).setCell ⟨w.heap.size, 5, none⟩ (.int .u64 s.lo.l)).setCell ⟨w.heap.size, 6, none⟩ (.int .i64 s.hi.f)).setCell ⟨w.heap.size, 7, none⟩ (.int .u64 s.hi.h)).setCell ⟨w.heap.size, 8, none⟩ (.int .u64 s.hi.l)) (some k) :=
  ⟨h.R.setAll s, (((((((((h.cod.set _ _ _ (by omega) (by omega)).set _ _ _ (by omega) (by omega)).set _ _ _ (by omega) (by omega)).set _ _ _ (by omega) (by omega)).set _ _ _ (by omega) (by omega)).set _ _ _ (by omega) (by omega)).set _ _ _ (by omega) (by omega)).set _ _ _ (by omega) (by omega)).set _ _ _ (by omega) (by omega)), (grown_set_new (grown_set_new (grown_set_new (grown_set_new (grown_set_new (grown_set_new (grown_set_new (grown_set_new (grown_set_new h.gr _ _ _ (by omega)) _ _ _ (by omega)) _ _ _ (by omega)) _ _ _ (by omega)) _ _ _ (by omega)) _ _ _ (by omega)) _ _ _ (by omega)) _ _ _ (by omega)) _ _ _ (by omega))⟩
end
theorem pr5 (j : Nat) (hj : j < 5) : ∃ t : Int, (#[Value.int .i64 0, .int .i64 0, .int .i64 6, .int .i64 17, .int .i64 1] : Array Value)[j]? = some (.int .i64 t) ∧ ([Value.int .i64 0, .int .i64 0, .int .i64 6, .int .i64 17, .int .i64 1] : List Value)[j]? = some (.int .i64 t) ∧ 0 ≤ t ∧ t ≤ 255 := by
  have : j = 0 ∨ j = 1 ∨ j = 2 ∨ j = 3 ∨ j = 4 := by omega
  rcases this with rfl | rfl | rfl | rfl | rfl
  all_goals exact ⟨_, rfl, rfl, by omega, by omega⟩
theorem po5 (j : Nat) (hj : j < 5) : ∃ t : Int, (#[Value.int .i64 0, .int .i64 80, .int .i64 443, .int .i64 65530, .int .i64 1] : Array Value)[j]? = some (.int .i64 t) ∧ ([Value.int .i64 0, .int .i64 80, .int .i64 443, .int .i64 65530, .int .i64 1] : List Value)[j]? = some (.int .i64 t) ∧ 0 ≤ t ∧ t ≤ 65530 := by
  have : j = 0 ∨ j = 1 ∨ j = 2 ∨ j = 3 ∨ j = 4 := by omega
  rcases this with rfl | rfl | rfl | rfl | rfl
  all_goals exact ⟨_, rfl, rfl, by omega, by omega⟩
theorem RangeA.sel {f : Int} {lo hi : Ad} (h : RangeA f lo hi) (p a b : Int) (hp : 0 ≤ p ∧ p ≤ 255) (hq : (a = 65535 ∧ b = 0) ∨ (0 ≤ a ∧ a ≤ b ∧ b ≤ 65535)) : DrawS f ⟨p, a, b, lo, hi⟩ :=
  ⟨⟨h.dlo.fit, h.dhi.fit, h.dlo.ok, h.dhi.ok, h.dlo.fam.trans h.dhi.fam.symm, h.le, hp, hq⟩, h.dlo.fam⟩

/-- What Selector returns. -/
def MadeS (W w : World) (k : Nat) (f : Int) (e : Ending) (w' : World) : Prop := ∃ s : Sl, e = .returned (.agg #[.int .i64 s.p, .int .i64 s.a, .int .i64 s.b, .int .i64 s.lo.f, .int .u64 s.lo.h, .int .u64 s.lo.l, .int .i64 s.hi.f, .int .u64 s.hi.h, .int .u64 s.hi.l]) ∧ DrawS f s ∧ Cod W w' k ∧ w.grownBy w' (some k)

set_option maxHeartbeats 3200000 in
set_option maxRecDepth 100000 in
theorem sel_any (W w : World) (k : Nat) (h : Cod W w k) (f : Int) (hf : f = 4 ∨ f = 6) :
    Calls Tryz.prog 68 #[.pointer (some ⟨k, 0, none⟩), .int .i64 f] w (MadeS W w k f) := by
  have hk := h.lt
  have hbase := h.bel.size
  have HC0 := hidden ((h.alloc (.cells #[.int .i64 0, .int .i64 0, .int .i64 0, .int .i64 0, .int .u64 0, .int .u64 0, .int .i64 0, .int .u64 0, .int .u64 0] 98)).alloc (.cells ([Value.int .i64 0, .int .i64 0, .int .i64 6, .int .i64 17, .int .i64 1] : List Value).toArray 3))
  have HR0 := hidden ((SlIn.new w zeroS 98).alloc (.cells ([Value.int .i64 0, .int .i64 0, .int .i64 6, .int .i64 17, .int .i64 1] : List Value).toArray 3))
  have HSP := hidden (fun w' (hc : Cod W w' k) => span_any W w' k hc f hf)
  clear h
  go_enter Tryz.func68, Tryz.ntmps68
  go_upto_region 4 with (first
    | (go_at_call_of 18 (Value.int IntKind.i64 5); (with_reducible refine (next_any W _ k HC0.out _ ?_).mono ?_); omega; rintro e w1 ⟨j, rfl, j0, j1, hc, hg⟩; obtain ⟨j, rfl⟩ := Int.eq_ofNat_of_zero_le j0; obtain ⟨p, hta, htl, p0, p1⟩ := pr5 j (by omega); have hcI : w1.cell? ⟨w.heap.size + 1, j, none⟩ = some (.int .i64 p) := (by have := row_cell _ w1 k _ _ j _ htl (by simp; omega) hg; simpa using this); have H1 := hidden (show DSl W w (w1.alloc (.cells #[.int .i64 p, .int .i64 0, .int .i64 65535, .int .i64 0, .int .u64 0, .int .u64 0, .int .i64 0, .int .u64 0, .int .u64 0] 98)) k w1.heap.size ⟨p, 0, 65535, zeroA, zeroA⟩ from ⟨hc.alloc _, grown_alloc_new (grown_trans (grown_alloc_new (World.grownBy_alloc w _ _) _) hg) _, by have := hg.size; simp at this; omega, (HR0.out.grown hg (by simp; omega)).alloc _, SlIn.new w1 ⟨p, 0, 65535, zeroA, zeroA⟩ _⟩); clear hc hg HC0 HR0)
    | (go_at_call 93; (with_reducible refine (HSP.out _ H1.out.cod).mono ?_); rintro e w2 ⟨lo, hi, rfl, hra, hc, hg⟩; have HRA := hidden hra; have H2 := hidden (H1.out.grown hk hc hg); obtain ⟨s0, s1, s2, s3, s4, s5, s6, s7, s8, sf⟩ := H2.out.S; have H3 := hidden ((H2.out.setLo hbase hk lo).setHi hbase hk hi); clear hra hc hg H1 H2)
    | (go_at_call_of 18 (Value.int IntKind.i64 5); (with_reducible refine (next_any W _ k H3.out.cod _ ?_).mono ?_); omega; rintro e w3 ⟨r, rfl, r0, r1, hc, hg⟩; have H4 := hidden (H3.out.grown hk hc hg); clear hc hg H3)
    | fail)
  generalize w1.heap.size = g at *
  have hg0 := H4.out.ge
  have hr : r = 0 ∨ (r = 1 ∨ r = 2) ∨ ((r == 0) = false ∧ (r == 1) = false ∧ (r == 2) = false) := by simp; omega
  rcases hr with rfl | hr | ⟨k1, k2, k3⟩
  · obtain ⟨s0, s1, s2, s3, s4, s5, s6, s7, s8, sf⟩ := H4.out.S
    obtain ⟨q0, q1, q2, q3, q4, q5, q6, q7, q8, qf⟩ := H4.out.R
    have H5 := hidden ((H4.out.setA hbase hk 65535).setB hbase hk 0)
    have n1 : ¬ w.heap.size = g := by omega
    have n2 : ¬ g = w.heap.size := by omega
    go_wp2
    obtain ⟨z1, z2, z3⟩ := H5.out.ret hbase hk
    refine ret_sl (g := w.heap.size) (s := ⟨p, 65535, 0, lo, hi⟩) rfl rfl rfl z1 ?_
    exact ⟨_, rfl, HRA.out.sel p 65535 0 ⟨p0, p1⟩ (Or.inl ⟨rfl, rfl⟩), z2, z3⟩
  · rcases hr with rfl | rfl
    all_goals
      have HC5 := hidden (H4.out.cod.alloc (.cells ([Value.int .i64 0, .int .i64 80, .int .i64 443, .int .i64 65530, .int .i64 1] : List Value).toArray 3))
      go_wp2_with (first
        | (go_at_call_of 18 (Value.int IntKind.i64 5); (with_reducible refine (next_any W _ k HC5.out _ ?_).mono ?_); omega; rintro e w4 ⟨j, rfl, j0, j1, hc, hg⟩; obtain ⟨j, rfl⟩ := Int.eq_ofNat_of_zero_le j0; obtain ⟨t, hta, htl, t0, t1⟩ := po5 j (by omega); have hcI := row_cell _ w4 k _ _ j _ htl H4.out.cod.lt hg; have H5 := hidden ((H4.out.alloc _).grown hk hc hg); clear hc hg HC5)
        | (go_at_call_of 18 (Value.int IntKind.i64 6); (with_reducible refine (next_any W _ k H5.out.cod _ ?_).mono ?_); omega; rintro e w5 ⟨v, rfl, v0, v1, hc, hg⟩; have H6 := hidden (H5.out.grown hk hc hg); obtain ⟨s0, s1, s2, s3, s4, s5, s6, s7, s8, sf⟩ := H6.out.S; obtain ⟨q0, q1, q2, q3, q4, q5, q6, q7, q8, qf⟩ := H6.out.R; have n1 : ¬ w.heap.size = g := (by omega); have n2 : ¬ g = w.heap.size := (by omega); clear hc hg H5 hcI)
        | fail)
      all_goals first
        | (have hq : t + v < 65535 := by omega
           obtain ⟨z1, z2, z3⟩ := ((H6.out.setA hbase hk t).setB hbase hk (t + v)).ret hbase hk
           refine ret_sl (g := w.heap.size) (s := ⟨p, t, t + v, lo, hi⟩) rfl rfl rfl z1 ?_
           exact ⟨_, rfl, HRA.out.sel p t (t + v) ⟨p0, p1⟩ (Or.inr ⟨by omega, by omega, by omega⟩), z2, z3⟩)
        | (have hq : 65535 ≤ t + v := by omega
           obtain ⟨z1, z2, z3⟩ := ((H6.out.setA hbase hk t).setB hbase hk (65535)).ret hbase hk
           refine ret_sl (g := w.heap.size) (s := ⟨p, t, 65535, lo, hi⟩) rfl rfl rfl z1 ?_
           exact ⟨_, rfl, HRA.out.sel p t (65535) ⟨p0, p1⟩ (Or.inr ⟨by omega, by omega, by omega⟩), z2, z3⟩)
        | fail
  · obtain ⟨s0, s1, s2, s3, s4, s5, s6, s7, s8, sf⟩ := H4.out.S
    obtain ⟨q0, q1, q2, q3, q4, q5, q6, q7, q8, qf⟩ := H4.out.R
    have n1 : ¬ w.heap.size = g := by omega
    have n2 : ¬ g = w.heap.size := by omega
    go_wp2
    obtain ⟨z1, z2, z3⟩ := H4.out.ret hbase hk
    refine ret_sl (g := w.heap.size) (s := ⟨p, 0, 65535, lo, hi⟩) rfl rfl rfl z1 ?_
    exact ⟨_, rfl, HRA.out.sel p 0 65535 ⟨p0, p1⟩ (Or.inr ⟨by omega, by omega, by omega⟩), z2, z3⟩
end Go.Proofs.YtbpmanbpmlkmnaaGreatDoor
