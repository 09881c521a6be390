/-
  The selector that a list of choices makes: it is good, and of the family that is asked for.
  Rows of selectors in memory; the lists of selectors that a list of choices makes.
-/
import Derived.Test.YtkniifopfgeopaaGreatJZ10
import Derived.Test.YtkniifopfgeopaaGreatJZ3
import Derived.Test.YtkniifopfgeopaaGreatJZ6
namespace Go.Proofs.YtkniifopfgeopaaGreat
open Go.RowKit
set_option linter.unusedVariables false

/-- A selector as it is drawn. -/
structure DrawS (f : Int) (s : Sl) : Prop where
  good : GoodS s
  fam : s.lo.f = f
/-- Where Selector stands: its result, its own selector at block g. -/
structure DSl (W w wx : World) (k g : Nat) (s : Sl) : Prop where
  cod : Cod W wx k
  gr : w.grownBy wx (some k)
  ge : w.heap.size < g
  R : SlIn wx w.heap.size zeroS
  S : SlIn wx g s
section
variable {W w wx wy : World} {k g : Nat} {s : Sl}
theorem DSl.grown (h : DSl W w wx k g s) (hk : k < w.heap.size) (hc : Cod W wy k) (hg : wx.grownBy wy (some k)) : DSl W w wy k g s :=
  ⟨hc, grown_trans h.gr hg, h.ge, h.R.grown hg (by simp; omega), h.S.grown hg (by have := h.ge; simp; omega)⟩
theorem DSl.alloc (h : DSl W w wx k g s) (o : Obj) : DSl W w (wx.alloc o) k g s := ⟨h.cod.alloc o, grown_alloc_new h.gr o, h.ge, h.R.alloc o, h.S.alloc o⟩
theorem DSl.setA (h : DSl W w wx k g s) (hb : W.heap.size ≤ w.heap.size) (hk : k < w.heap.size) (z : Int) : DSl W w (wx.setCell ⟨g, 1, none⟩ (.int .i64 z)) k g { s with a := z } := by
  have := h.ge
  exact ⟨h.cod.set _ _ _ (by omega) (by omega), grown_set_new h.gr _ _ _ (by omega), h.ge, h.R.set_ne _ _ _ (by omega), h.S.setA z⟩
theorem DSl.setB (h : DSl W w wx k g s) (hb : W.heap.size ≤ w.heap.size) (hk : k < w.heap.size) (z : Int) : DSl W w (wx.setCell ⟨g, 2, none⟩ (.int .i64 z)) k g { s with b := z } := by
  have := h.ge
  exact ⟨h.cod.set _ _ _ (by omega) (by omega), grown_set_new h.gr _ _ _ (by omega), h.ge, h.R.set_ne _ _ _ (by omega), h.S.setB z⟩
theorem DSl.setLo (h : DSl W w wx k g s) (hb : W.heap.size ≤ w.heap.size) (hk : k < w.heap.size) (z : Ad) : DSl W w (((wx.setCell ⟨g, 3, none⟩ (.int .i64 z.f)).setCell ⟨g, 4, none⟩ (.int .u64 z.h)).setCell ⟨g, 5, none⟩ (.int .u64 z.l)) k g { s with lo := z } := by
  have := h.ge
  exact ⟨((h.cod.set _ _ _ (by omega) (by omega)).set _ _ _ (by omega) (by omega)).set _ _ _ (by omega) (by omega), grown_set_new (grown_set_new (grown_set_new h.gr _ _ _ (by omega)) _ _ _ (by omega)) _ _ _ (by omega), h.ge, ((h.R.set_ne _ _ _ (by omega)).set_ne _ _ _ (by omega)).set_ne _ _ _ (by omega), h.S.setLo z⟩
theorem DSl.setHi (h : DSl W w wx k g s) (hb : W.heap.size ≤ w.heap.size) (hk : k < w.heap.size) (z : Ad) : DSl W w (((wx.setCell ⟨g, 6, none⟩ (.int .i64 z.f)).setCell ⟨g, 7, none⟩ (.int .u64 z.h)).setCell ⟨g, 8, none⟩ (.int .u64 z.l)) k g { s with hi := z } := by
  have := h.ge
  exact ⟨((h.cod.set _ _ _ (by omega) (by omega)).set _ _ _ (by omega) (by omega)).set _ _ _ (by omega) (by omega), grown_set_new (grown_set_new (grown_set_new h.gr _ _ _ (by omega)) _ _ _ (by omega)) _ _ _ (by omega), h.ge, ((h.R.set_ne _ _ _ (by omega)).set_ne _ _ _ (by omega)).set_ne _ _ _ (by omega), h.S.setHi z⟩
theorem DSl.ret (h : DSl W w wx k g s) (hb : W.heap.size ≤ w.heap.size) (hk : k < w.heap.size) : SlIn (((((((((wx.setCell ⟨w.heap.size, 0, none⟩ (.int .i64 s.p)).setCell ⟨w.heap.size, 1, none⟩ (.int .i64 s.a)).setCell ⟨w.heap.size, 2, none⟩ (.int .i64 s.b)).setCell ⟨w.heap.size, 3, none⟩ (.int .i64 s.lo.f)).setCell ⟨w.heap.size, 4, none⟩ (.int .u64 s.lo.h)).setCell ⟨w.heap.size, 5, none⟩ (.int .u64 s.lo.l)).setCell ⟨w.heap.size, 6, none⟩ (.int .i64 s.hi.f)).setCell ⟨w.heap.size, 7, none⟩ (.int .u64 s.hi.h)).setCell ⟨w.heap.size, 8, none⟩ (.int .u64 s.hi.l)) w.heap.size s ∧ Cod W (((((((((wx.setCell ⟨w.heap.size, 0, none⟩ (.int .i64 s.p)).setCell ⟨w.heap.size, 1, none⟩ (.int .i64 s.a)).setCell ⟨w.heap.size, 2, none⟩ (.int .i64 s.b)).setCell ⟨w.heap.size, 3, none⟩ (.int .i64 s.lo.f)).setCell ⟨w.heap.size, 4, none⟩ (.int .u64 s.lo.h)).setCell ⟨w.heap.size, 5, none⟩ (.int .u64 s.lo.l)).setCell ⟨w.heap.size, 6, none⟩ (.int .i64 s.hi.f)).setCell ⟨w.heap.size, 7, none⟩ (.int .u64 s.hi.h)).setCell ⟨w.heap.size, 8, none⟩ (.int .u64 s.hi.l)) k ∧ w.grownBy (((((((((wx.setCell ⟨w.heap.size, 0, none⟩ (.int .i64 s.p)).setCell ⟨w.heap.size, 1, none⟩ (.int .i64 s.a)).setCell ⟨w.heap.size, 2, none⟩ (.int .i64 s.b)).setCell ⟨w.heap.size, 3, none⟩ (.int .i64 s.lo.f)).setCell ⟨w.heap.size, 4, none⟩ (.int .u64 s.lo.h)).setCell ⟨w.heap.size, 5, none⟩ (.int .u64 s.lo.l)).setCell ⟨w.heap.size, 6, none⟩ (.int .i64 s.hi.f)).setCell ⟨w.heap.size, 7, none⟩ (.int .u64 s.hi.h)).setCell ⟨w.heap.size, 8, none⟩ (.int .u64 s.hi.l)) (some k) :=
  ⟨h.R.setAll s, (((((((((h.cod.set _ _ _ (by omega) (by omega)).set _ _ _ (by omega) (by omega)).set _ _ _ (by omega) (by omega)).set _ _ _ (by omega) (by omega)).set _ _ _ (by omega) (by omega)).set _ _ _ (by omega) (by omega)).set _ _ _ (by omega) (by omega)).set _ _ _ (by omega) (by omega)).set _ _ _ (by omega) (by omega)), (grown_set_new (grown_set_new (grown_set_new (grown_set_new (grown_set_new (grown_set_new (grown_set_new (grown_set_new (grown_set_new h.gr _ _ _ (by omega)) _ _ _ (by omega)) _ _ _ (by omega)) _ _ _ (by omega)) _ _ _ (by omega)) _ _ _ (by omega)) _ _ _ (by omega)) _ _ _ (by omega)) _ _ _ (by omega))⟩
end
theorem pr5 (j : Nat) (hj : j < 5) : ∃ t : Int, (#[Value.int .i64 0, .int .i64 0, .int .i64 6, .int .i64 17, .int .i64 1] : Array Value)[j]? = some (.int .i64 t) ∧ ([Value.int .i64 0, .int .i64 0, .int .i64 6, .int .i64 17, .int .i64 1] : List Value)[j]? = some (.int .i64 t) ∧ 0 ≤ t ∧ t ≤ 255 := by
  have : j = 0 ∨ j = 1 ∨ j = 2 ∨ j = 3 ∨ j = 4 := by omega
  rcases this with rfl | rfl | rfl | rfl | rfl
  all_goals exact ⟨_, rfl, rfl, by omega, by omega⟩
theorem po5 (j : Nat) (hj : j < 5) : ∃ t : Int, (#[Value.int .i64 0, .int .i64 80, .int .i64 443, .int .i64 65530, .int .i64 1] : Array Value)[j]? = some (.int .i64 t) ∧ ([Value.int .i64 0, .int .i64 80, .int .i64 443, .int .i64 65530, .int .i64 1] : List Value)[j]? = some (.int .i64 t) ∧ 0 ≤ t ∧ t ≤ 65530 := by
  have : j = 0 ∨ j = 1 ∨ j = 2 ∨ j = 3 ∨ j = 4 := by omega
  rcases this with rfl | rfl | rfl | rfl | rfl
  all_goals exact ⟨_, rfl, rfl, by omega, by omega⟩
theorem RangeA.sel {f : Int} {lo hi : Ad} (h : RangeA f lo hi) (p a b : Int) (hp : 0 ≤ p ∧ p ≤ 255) (hq : (a = 65535 ∧ b = 0) ∨ (0 ≤ a ∧ a ≤ b ∧ b ≤ 65535)) : DrawS f ⟨p, a, b, lo, hi⟩ :=
  ⟨⟨h.dlo.fit, h.dhi.fit, h.dlo.ok, h.dhi.ok, h.dlo.fam.trans h.dhi.fam.symm, h.le, hp, hq⟩, h.dlo.fam⟩

/-- What Selector returns. -/
def MadeS (W w : World) (k : Nat) (f : Int) (e : Ending) (w' : World) : Prop := ∃ s : Sl, e = .returned (.agg #[.int .i64 s.p, .int .i64 s.a, .int .i64 s.b, .int .i64 s.lo.f, .int .u64 s.lo.h, .int .u64 s.lo.l, .int .i64 s.hi.f, .int .u64 s.hi.h, .int .u64 s.hi.l]) ∧ DrawS f s ∧ Cod W w' k ∧ w.grownBy w' (some k)

set_option maxHeartbeats 3200000 in
set_option maxRecDepth 100000 in
theorem sel_any (W w : World) (k : Nat) (h : Cod W w k) (f : Int) (hf : f = 4 ∨ f = 6) :
    Calls Tryz.prog 50 #[.pointer (some ⟨k, 0, none⟩), .int .i64 f] w (MadeS W w k f) := by
  have hk := h.lt
  have hbase := h.bel.size
  have HC0 := hidden ((h.alloc (.cells #[.int .i64 0, .int .i64 0, .int .i64 0, .int .i64 0, .int .u64 0, .int .u64 0, .int .i64 0, .int .u64 0, .int .u64 0] 116)).alloc (.cells ([Value.int .i64 0, .int .i64 0, .int .i64 6, .int .i64 17, .int .i64 1] : List Value).toArray 3))
  have HR0 := hidden ((SlIn.new w zeroS 116).alloc (.cells ([Value.int .i64 0, .int .i64 0, .int .i64 6, .int .i64 17, .int .i64 1] : List Value).toArray 3))
  have HSP := hidden (fun w' (hc : Cod W w' k) => span_any W w' k hc f hf)
  clear h
  go_enter Tryz.func50, Tryz.ntmps50
  go_upto_region 4 with (first
    | (go_at_call_of 18 (Value.int IntKind.i64 5); (with_reducible refine (next_any W _ k HC0.out _ ?_).mono ?_); omega; rintro e w1 ⟨j, rfl, j0, j1, hc, hg⟩; obtain ⟨j, rfl⟩ := Int.eq_ofNat_of_zero_le j0; obtain ⟨p, hta, htl, p0, p1⟩ := pr5 j (by omega); have hcI : w1.cell? ⟨w.heap.size + 1, j, none⟩ = some (.int .i64 p) := (by have := row_cell _ w1 k _ _ j _ htl (by simp; omega) hg; simpa using this); have H1 := hidden (show DSl W w (w1.alloc (.cells #[.int .i64 p, .int .i64 0, .int .i64 65535, .int .i64 0, .int .u64 0, .int .u64 0, .int .i64 0, .int .u64 0, .int .u64 0] 116)) k w1.heap.size ⟨p, 0, 65535, zeroA, zeroA⟩ from ⟨hc.alloc _, grown_alloc_new (grown_trans (grown_alloc_new (World.grownBy_alloc w _ _) _) hg) _, by have := hg.size; simp at this; omega, (HR0.out.grown hg (by simp; omega)).alloc _, SlIn.new w1 ⟨p, 0, 65535, zeroA, zeroA⟩ _⟩); clear hc hg HC0 HR0)
    | (go_at_call 67; (with_reducible refine (HSP.out _ H1.out.cod).mono ?_); rintro e w2 ⟨lo, hi, rfl, hra, hc, hg⟩; have HRA := hidden hra; have H2 := hidden (H1.out.grown hk hc hg); obtain ⟨s0, s1, s2, s3, s4, s5, s6, s7, s8, sf⟩ := H2.out.S; have H3 := hidden ((H2.out.setLo hbase hk lo).setHi hbase hk hi); clear hra hc hg H1 H2)
    | (go_at_call_of 18 (Value.int IntKind.i64 5); (with_reducible refine (next_any W _ k H3.out.cod _ ?_).mono ?_); omega; rintro e w3 ⟨r, rfl, r0, r1, hc, hg⟩; have H4 := hidden (H3.out.grown hk hc hg); clear hc hg H3)
    | fail)
  generalize w1.heap.size = g at *
  have hg0 := H4.out.ge
  have hr : r = 0 ∨ (r = 1 ∨ r = 2) ∨ ((r == 0) = false ∧ (r == 1) = false ∧ (r == 2) = false) := by simp; omega
  rcases hr with rfl | hr | ⟨k1, k2, k3⟩
  · obtain ⟨s0, s1, s2, s3, s4, s5, s6, s7, s8, sf⟩ := H4.out.S
    obtain ⟨q0, q1, q2, q3, q4, q5, q6, q7, q8, qf⟩ := H4.out.R
    have H5 := hidden ((H4.out.setA hbase hk 65535).setB hbase hk 0)
    have n1 : ¬ w.heap.size = g := by omega
    have n2 : ¬ g = w.heap.size := by omega
    go_wp2
    obtain ⟨z1, z2, z3⟩ := H5.out.ret hbase hk
    refine ret_sl (g := w.heap.size) (s := ⟨p, 65535, 0, lo, hi⟩) rfl rfl rfl z1 ?_
    exact ⟨_, rfl, HRA.out.sel p 65535 0 ⟨p0, p1⟩ (Or.inl ⟨rfl, rfl⟩), z2, z3⟩
  · rcases hr with rfl | rfl
    all_goals
      have HC5 := hidden (H4.out.cod.alloc (.cells ([Value.int .i64 0, .int .i64 80, .int .i64 443, .int .i64 65530, .int .i64 1] : List Value).toArray 3))
      go_wp2_with (first
        | (go_at_call_of 18 (Value.int IntKind.i64 5); (with_reducible refine (next_any W _ k HC5.out _ ?_).mono ?_); omega; rintro e w4 ⟨j, rfl, j0, j1, hc, hg⟩; obtain ⟨j, rfl⟩ := Int.eq_ofNat_of_zero_le j0; obtain ⟨t, hta, htl, t0, t1⟩ := po5 j (by omega); have hcI := row_cell _ w4 k _ _ j _ htl H4.out.cod.lt hg; have H5 := hidden ((H4.out.alloc _).grown hk hc hg); clear hc hg HC5)
        | (go_at_call_of 18 (Value.int IntKind.i64 6); (with_reducible refine (next_any W _ k H5.out.cod _ ?_).mono ?_); omega; rintro e w5 ⟨v, rfl, v0, v1, hc, hg⟩; have H6 := hidden (H5.out.grown hk hc hg); obtain ⟨s0, s1, s2, s3, s4, s5, s6, s7, s8, sf⟩ := H6.out.S; obtain ⟨q0, q1, q2, q3, q4, q5, q6, q7, q8, qf⟩ := H6.out.R; have n1 : ¬ w.heap.size = g := (by omega); have n2 : ¬ g = w.heap.size := (by omega); clear hc hg H5 hcI)
        | fail)
      all_goals first
        | (have hq : t + v < 65535 := by omega
           obtain ⟨z1, z2, z3⟩ := ((H6.out.setA hbase hk t).setB hbase hk (t + v)).ret hbase hk
           refine ret_sl (g := w.heap.size) (s := ⟨p, t, t + v, lo, hi⟩) rfl rfl rfl z1 ?_
           exact ⟨_, rfl, HRA.out.sel p t (t + v) ⟨p0, p1⟩ (Or.inr ⟨by omega, by omega, by omega⟩), z2, z3⟩)
        | (have hq : 65535 ≤ t + v := by omega
           obtain ⟨z1, z2, z3⟩ := ((H6.out.setA hbase hk t).setB hbase hk (65535)).ret hbase hk
           refine ret_sl (g := w.heap.size) (s := ⟨p, t, 65535, lo, hi⟩) rfl rfl rfl z1 ?_
           exact ⟨_, rfl, HRA.out.sel p t (65535) ⟨p0, p1⟩ (Or.inr ⟨by omega, by omega, by omega⟩), z2, z3⟩)
        | fail
  · obtain ⟨s0, s1, s2, s3, s4, s5, s6, s7, s8, sf⟩ := H4.out.S
    obtain ⟨q0, q1, q2, q3, q4, q5, q6, q7, q8, qf⟩ := H4.out.R
    have n1 : ¬ w.heap.size = g := by omega
    have n2 : ¬ g = w.heap.size := by omega
    go_wp2
    obtain ⟨z1, z2, z3⟩ := H4.out.ret hbase hk
    refine ret_sl (g := w.heap.size) (s := ⟨p, 0, 65535, lo, hi⟩) rfl rfl rfl z1 ?_
    exact ⟨_, rfl, HRA.out.sel p 0 65535 ⟨p0, p1⟩ (Or.inr ⟨by omega, by omega, by omega⟩), z2, z3⟩
end Go.Proofs.YtkniifopfgeopaaGreat

namespace Go.Proofs.YtkniifopfgeopaaGreat
open Go.RowKit
set_option linter.unusedVariables false

/-- Selectors: nine numbers. -/
def KSl : KindR Sl where
  e := 116
  k := 9
  cs x := [.int .i64 x.p, .int .i64 x.a, .int .i64 x.b, .int .i64 x.lo.f, .int .u64 x.lo.h, .int .u64 x.lo.l, .int .i64 x.hi.f, .int .u64 x.hi.h, .int .u64 x.hi.l]
  len _ := rfl
  one x u hu := by
    simp at hu
    rcases hu with rfl | rfl | rfl | rfl | rfl | rfl | rfl | rfl | rfl <;> rfl
  pos := by decide
def NSl : NestR Sl where
  ts := []
  ok _ _ x := FitS x
  keep h _ _ := h
  mono h _ := h
def DSlr : ReadN Sl where
  ok _ x := FitS x
  keep h _ := h
theorem Tryz.infoSl : (Tryz.prog.info? 116).map (fun i => (i.zero, i.size, i.bytes)) = some (some (.agg #[.int .i64 0, .int .i64 0, .int .i64 0, .int .i64 0, .int .u64 0, .int .u64 0, .int .i64 0, .int .u64 0, .int .u64 0]), 9, 72) := by kernel_rfl
theorem knownSl : KnownR Tryz.prog KSl 57 72 := by
  refine ⟨Tryz.underlying57, ?_⟩
  obtain ⟨i0, hi, hz0, hz1, hz2⟩ := info_parts Tryz.infoSl
  exact ⟨i0, _, hi, hz0, hz1, hz2, rfl⟩
/-- One element that was just laid out. -/
theorem srcSl (w : World) (x : Sl) (T : TypeId) : SrcG KSl (w.alloc (.cells #[.int .i64 x.p, .int .i64 x.a, .int .i64 x.b, .int .i64 x.lo.f, .int .u64 x.lo.h, .int .u64 x.lo.l, .int .i64 x.hi.f, .int .u64 x.hi.h, .int .u64 x.hi.l] T)) (some ⟨w.heap.size, 0, none⟩) 1 [x] := SrcG.new KSl w [x] T
theorem fam_fits {f : Int} {s : Sl} (h : DrawS f s) : FitS s := h.good.fit

/-- Where Selectors stands. -/
structure DLs (W w wx : World) (k : Nat) (f : Int) (v : Value) (l : List Sl) : Prop where
  cod : Cod W wx k
  gr : w.grownBy wx (some k)
  row : RowG KSl NSl wx w.heap.size v l
  all : ∀ s ∈ l, DrawS f s
/-- What Selectors returns. -/
def MadeL (W w : World) (k most : Nat) (e : Ending) (w' : World) : Prop := ∃ (v : Value) (l : List Sl) (f : Int), e = .returned v ∧ (f = 4 ∨ f = 6) ∧ 1 ≤ l.length ∧ l.length ≤ most ∧ DLs W w w' k f v l

set_option maxHeartbeats 1600000 in
set_option maxRecDepth 100000 in
theorem sels_any (W w : World) (k : Nat) (h : Cod W w k) (most : Nat) (hm1 : 1 ≤ most) (hm2 : most ≤ 256) :
    Calls Tryz.prog 34 #[.pointer (some ⟨k, 0, none⟩), .int .i64 most] w (MadeL W w k most) := by
  have hk := h.lt
  have hbase := h.bel.size
  have HC0 := hidden h
  clear h
  go_enter Tryz.func34, Tryz.ntmps34
  go_upto_if 10 with (first
    | (go_at_call_of 18 (Value.int IntKind.i64 4); (with_reducible refine (next_any W _ k HC0.out _ ?_).mono ?_); omega; rintro e w1 ⟨r, rfl, r0, r1, hc, hg⟩; have HC1 := hidden hc; have HG1 := hidden hg; clear hc hg HC0)
    | fail)
  go_cut [5] from 8 to 10 (fun fv wx => ∃ f : Int, fv = .int .i64 f ∧ (f = 4 ∨ f = 6) ∧ w1 = wx)
  case first =>
    rcases hr : (r == 3) with _ | _
    · go_wp2
      go_meet
      case rel => exact ⟨4, rfl, Or.inl rfl, rfl⟩
    · go_wp2
      go_meet
      case rel => exact ⟨6, rfl, Or.inr rfl, rfl⟩
  case rest =>
    obtain ⟨f, rfl, hf, rfl⟩ := hcut
    have HSE := hidden (fun w' (hc : Cod W w' k) => sel_any W w' k hc f hf)
    go_upto_region 6 with (first
      | (go_at_call 18; (with_reducible refine (next_any W _ k HC1.out _ ?_).mono ?_); omega; rintro e w2 ⟨N, rfl, N0, N1, hc, hg⟩; have HC2 := hidden hc; have HG2 := hidden (grown_trans HG1.out hg); clear hc hg HC1 HG1)
      | fail)
    obtain ⟨N, rfl⟩ := Int.eq_ofNat_of_zero_le N0
    go_wp2_with fail
    go_loopw [6, 7] (fun v i wx => ∃ (j : Nat) (l : List Sl), i = .int .i64 j ∧ l.length + j = 1 + N ∧ DLs W w wx k f v l) (fun _ i _ => (intOf i).toNat)
    case atStart => exact ⟨1 + N, [], by simp, by simp, ⟨HC2.out, HG2.out, RowG.nil _ _ _ _, fun s hs => by cases hs⟩⟩
    case round =>
      obtain ⟨j, l, rfl, hj, hdl⟩ := hrel
      obtain ⟨po, co, rfl⟩ := hdl.row.form rfl
      have HD := hidden hdl
      clear hdl HC2 HG2
      by_cases h0 : j = 0
      · subst h0
        go_wp2
        go_ret
        exact ⟨_, l, f, rfl, hf, by omega, by omega, HD.out⟩
      · have hj0 : (0 : Int) < j := by omega
        go_wp2_with (first
          | (go_at_call 50; (with_reducible refine (HSE.out _ HD.out.cod).mono ?_); rintro e w3 ⟨s, rfl, hs, hc, hg⟩; have HS := hidden hs; have HC3 := hidden (hc.alloc (.cells #[.int .i64 s.p, .int .i64 s.a, .int .i64 s.b, .int .i64 s.lo.f, .int .u64 s.lo.h, .int .u64 s.lo.l, .int .i64 s.hi.f, .int .u64 s.hi.h, .int .u64 s.hi.l] 116)); have HG3 := hidden (grown_alloc_new (grown_trans HD.out.gr hg) (.cells #[.int .i64 s.p, .int .i64 s.a, .int .i64 s.b, .int .i64 s.lo.f, .int .u64 s.lo.h, .int .u64 s.lo.l, .int .i64 s.hi.f, .int .u64 s.hi.h, .int .u64 s.hi.l] 116)); have HR3 : Hid (RowG KSl NSl (w3.alloc (.cells #[.int .i64 s.p, .int .i64 s.a, .int .i64 s.b, .int .i64 s.lo.f, .int .u64 s.lo.h, .int .u64 s.lo.l, .int .i64 s.hi.f, .int .u64 s.hi.h, .int .u64 s.hi.l] 116)) w.heap.size (.slice po l.length co) l) := hidden ((HD.out.row.low hg hk).alloc _); clear hs hc hg)
          | (at_builtin; go_loud (refine wpList_append_g knownSl (by simp [NSl]) _ rfl _ _ rfl w.heap.size _ l rfl HR3.out _ 1 1 [s] rfl (srcSl w3 s _) (fun x hx => by rw [List.mem_singleton.1 hx]; exact fam_fits HS.out) (by unfold maxLen; omega) (by omega) (by have := HG3.out.size; simp at this ⊢; omega) ?_))
          | fail)
        intro v' w4 hr4 hg4
        have hlt := HR3.out.lt
        have HC4 := hidden (HC3.out.grown hg4 (by intro e; have := hlt k e.symm; omega) (fun j hj => by have := (hlt j hj).1; omega))
        have HG4 := hidden (grown_own HG3.out hg4 (fun j hj => (hlt j hj).1))
        have HR4 := hidden hr4
        clear hr4 hg4 hlt HR3 HC3 HG3
        go_wp2
        go_roundw
        case rel => exact ⟨j - 1, l ++ [s], by go_num, by simp; omega, ⟨HC4.out, HG4.out, HR4.out, fun t ht => by
          rcases List.mem_append.1 ht with ht | ht
          · exact HD.out.all t ht
          · rw [List.mem_singleton.1 ht]; exact HS.out⟩⟩
        case measure => simp [intOf]; omega
end Go.Proofs.YtkniifopfgeopaaGreat
