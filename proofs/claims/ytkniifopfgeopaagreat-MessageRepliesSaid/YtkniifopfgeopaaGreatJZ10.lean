/-
  Ranges of addresses: all of a family, and the drawn ones.
  The range of addresses that a list of choices makes.
-/
import Derived.Test.YtkniifopfgeopaaGreatJZ6
namespace Go.Proofs.YtkniifopfgeopaaGreat
open Go.RowKit
set_option linter.unusedVariables false

theorem put_two0 {w : World} {B R S : Nat} {r s x y : Ad} (hr : AdIn w R r) (hs : AdIn w S s) (hne : R ≠ S) (h1 : B ≤ R) (h2 : B ≤ S) : AdIn ((((((w.setCell ⟨R, 0, none⟩ (.int .i64 x.f)).setCell ⟨R, 1, none⟩ (.int .u64 x.h)).setCell ⟨R, 2, none⟩ (.int .u64 x.l)).setCell ⟨S, 0, none⟩ (.int .i64 y.f)).setCell ⟨S, 1, none⟩ (.int .u64 y.h)).setCell ⟨S, 2, none⟩ (.int .u64 y.l)) R x ∧ AdIn ((((((w.setCell ⟨R, 0, none⟩ (.int .i64 x.f)).setCell ⟨R, 1, none⟩ (.int .u64 x.h)).setCell ⟨R, 2, none⟩ (.int .u64 x.l)).setCell ⟨S, 0, none⟩ (.int .i64 y.f)).setCell ⟨S, 1, none⟩ (.int .u64 y.h)).setCell ⟨S, 2, none⟩ (.int .u64 y.l)) S y ∧ (∀ W : World, W.heap.size = B → Below B W w → Below B W ((((((w.setCell ⟨R, 0, none⟩ (.int .i64 x.f)).setCell ⟨R, 1, none⟩ (.int .u64 x.h)).setCell ⟨R, 2, none⟩ (.int .u64 x.l)).setCell ⟨S, 0, none⟩ (.int .i64 y.f)).setCell ⟨S, 1, none⟩ (.int .u64 y.h)).setCell ⟨S, 2, none⟩ (.int .u64 y.l))) ∧ (∀ (W0 : World) (k : Nat), Cod W0 w k → W0.heap.size ≤ B → k < B → Cod W0 ((((((w.setCell ⟨R, 0, none⟩ (.int .i64 x.f)).setCell ⟨R, 1, none⟩ (.int .u64 x.h)).setCell ⟨R, 2, none⟩ (.int .u64 x.l)).setCell ⟨S, 0, none⟩ (.int .i64 y.f)).setCell ⟨S, 1, none⟩ (.int .u64 y.h)).setCell ⟨S, 2, none⟩ (.int .u64 y.l)) k) ∧ (∀ (W : World) (k : Nat), W.heap.size = B → W.grownBy w (some k) → W.grownBy ((((((w.setCell ⟨R, 0, none⟩ (.int .i64 x.f)).setCell ⟨R, 1, none⟩ (.int .u64 x.h)).setCell ⟨R, 2, none⟩ (.int .u64 x.l)).setCell ⟨S, 0, none⟩ (.int .i64 y.f)).setCell ⟨S, 1, none⟩ (.int .u64 y.h)).setCell ⟨S, 2, none⟩ (.int .u64 y.l)) (some k)) := by
  have hne' : ¬ S = R := fun e => hne e.symm
  refine ⟨?_, ?_, ?_, ?_, ?_⟩
  · obtain ⟨c0, c1, c2, fr⟩ := hr
    exact ⟨by go_simp, by go_simp, by go_simp, fun j => by go_simp⟩
  · obtain ⟨c0, c1, c2, fr⟩ := hs
    exact ⟨by go_simp, by go_simp, by go_simp, fun j => by go_simp⟩
  · intro W hW hb
    exact ((((((hb.setCell (p := ⟨R, 0, none⟩) (by simp <;> omega) _).setCell (p := ⟨R, 1, none⟩) (by simp <;> omega) _).setCell (p := ⟨R, 2, none⟩) (by simp <;> omega) _).setCell (p := ⟨S, 0, none⟩) (by simp <;> omega) _).setCell (p := ⟨S, 1, none⟩) (by simp <;> omega) _).setCell (p := ⟨S, 2, none⟩) (by simp <;> omega) _)
  · intro W0 k hc hB hk
    repeat' (first | with_reducible exact hc | (with_reducible refine Cod.set ?_ _ _ _ (by omega) (by omega)))
  · intro W k hW hg
    repeat' (first | with_reducible exact hg | (with_reducible refine grown_set_new ?_ _ _ _ (by omega)))
theorem put_two1 {w : World} {B R S : Nat} {r s x y : Ad} (hr : AdIn w R r) (hs : AdIn w S s) (hne : R ≠ S) (h1 : B ≤ R) (h2 : B ≤ S) : AdIn ((((((w.setCell ⟨R, 0, none⟩ (.int .i64 x.f)).setCell ⟨R, 1, none⟩ (.int .u64 x.h)).setCell ⟨R, 2, none⟩ (.int .u64 x.l)).setCell ⟨S, 0, none⟩ (.int .i64 y.f)).setCell ⟨S, 1, none⟩ (.int .u64 y.h)).setCell ⟨S, 2, none⟩ (.int .u64 y.l)).drew R x ∧ AdIn ((((((w.setCell ⟨R, 0, none⟩ (.int .i64 x.f)).setCell ⟨R, 1, none⟩ (.int .u64 x.h)).setCell ⟨R, 2, none⟩ (.int .u64 x.l)).setCell ⟨S, 0, none⟩ (.int .i64 y.f)).setCell ⟨S, 1, none⟩ (.int .u64 y.h)).setCell ⟨S, 2, none⟩ (.int .u64 y.l)).drew S y ∧ (∀ W : World, W.heap.size = B → Below B W w → Below B W ((((((w.setCell ⟨R, 0, none⟩ (.int .i64 x.f)).setCell ⟨R, 1, none⟩ (.int .u64 x.h)).setCell ⟨R, 2, none⟩ (.int .u64 x.l)).setCell ⟨S, 0, none⟩ (.int .i64 y.f)).setCell ⟨S, 1, none⟩ (.int .u64 y.h)).setCell ⟨S, 2, none⟩ (.int .u64 y.l)).drew) ∧ (∀ (W0 : World) (k : Nat), Cod W0 w k → W0.heap.size ≤ B → k < B → Cod W0 ((((((w.setCell ⟨R, 0, none⟩ (.int .i64 x.f)).setCell ⟨R, 1, none⟩ (.int .u64 x.h)).setCell ⟨R, 2, none⟩ (.int .u64 x.l)).setCell ⟨S, 0, none⟩ (.int .i64 y.f)).setCell ⟨S, 1, none⟩ (.int .u64 y.h)).setCell ⟨S, 2, none⟩ (.int .u64 y.l)).drew k) ∧ (∀ (W : World) (k : Nat), W.heap.size = B → W.grownBy w (some k) → W.grownBy ((((((w.setCell ⟨R, 0, none⟩ (.int .i64 x.f)).setCell ⟨R, 1, none⟩ (.int .u64 x.h)).setCell ⟨R, 2, none⟩ (.int .u64 x.l)).setCell ⟨S, 0, none⟩ (.int .i64 y.f)).setCell ⟨S, 1, none⟩ (.int .u64 y.h)).setCell ⟨S, 2, none⟩ (.int .u64 y.l)).drew (some k)) := by
  have hne' : ¬ S = R := fun e => hne e.symm
  refine ⟨?_, ?_, ?_, ?_, ?_⟩
  · obtain ⟨c0, c1, c2, fr⟩ := hr
    exact ⟨by go_simp, by go_simp, by go_simp, fun j => by go_simp⟩
  · obtain ⟨c0, c1, c2, fr⟩ := hs
    exact ⟨by go_simp, by go_simp, by go_simp, fun j => by go_simp⟩
  · intro W hW hb
    exact ((((((hb.setCell (p := ⟨R, 0, none⟩) (by simp <;> omega) _).setCell (p := ⟨R, 1, none⟩) (by simp <;> omega) _).setCell (p := ⟨R, 2, none⟩) (by simp <;> omega) _).setCell (p := ⟨S, 0, none⟩) (by simp <;> omega) _).setCell (p := ⟨S, 1, none⟩) (by simp <;> omega) _).setCell (p := ⟨S, 2, none⟩) (by simp <;> omega) _).trans (drew_below ⟨1, rfl⟩)
  · intro W0 k hc hB hk
    refine Cod.below ?_ (drew_below ⟨1, rfl⟩)
    repeat' (first | with_reducible exact hc | (with_reducible refine Cod.set ?_ _ _ _ (by omega) (by omega)))
  · intro W k hW hg
    refine grown_trans ?_ (grown_drewN _ 1 _)
    repeat' (first | with_reducible exact hg | (with_reducible refine grown_set_new ?_ _ _ _ (by omega)))
theorem put_two2 {w : World} {B R S : Nat} {r s x y : Ad} (hr : AdIn w R r) (hs : AdIn w S s) (hne : R ≠ S) (h1 : B ≤ R) (h2 : B ≤ S) : AdIn ((((((w.setCell ⟨S, 0, none⟩ (.int .i64 y.f)).setCell ⟨S, 1, none⟩ (.int .u64 y.h)).setCell ⟨S, 2, none⟩ (.int .u64 y.l)).setCell ⟨R, 0, none⟩ (.int .i64 x.f)).setCell ⟨R, 1, none⟩ (.int .u64 x.h)).setCell ⟨R, 2, none⟩ (.int .u64 x.l)).drew R x ∧ AdIn ((((((w.setCell ⟨S, 0, none⟩ (.int .i64 y.f)).setCell ⟨S, 1, none⟩ (.int .u64 y.h)).setCell ⟨S, 2, none⟩ (.int .u64 y.l)).setCell ⟨R, 0, none⟩ (.int .i64 x.f)).setCell ⟨R, 1, none⟩ (.int .u64 x.h)).setCell ⟨R, 2, none⟩ (.int .u64 x.l)).drew S y ∧ (∀ W : World, W.heap.size = B → Below B W w → Below B W ((((((w.setCell ⟨S, 0, none⟩ (.int .i64 y.f)).setCell ⟨S, 1, none⟩ (.int .u64 y.h)).setCell ⟨S, 2, none⟩ (.int .u64 y.l)).setCell ⟨R, 0, none⟩ (.int .i64 x.f)).setCell ⟨R, 1, none⟩ (.int .u64 x.h)).setCell ⟨R, 2, none⟩ (.int .u64 x.l)).drew) ∧ (∀ (W0 : World) (k : Nat), Cod W0 w k → W0.heap.size ≤ B → k < B → Cod W0 ((((((w.setCell ⟨S, 0, none⟩ (.int .i64 y.f)).setCell ⟨S, 1, none⟩ (.int .u64 y.h)).setCell ⟨S, 2, none⟩ (.int .u64 y.l)).setCell ⟨R, 0, none⟩ (.int .i64 x.f)).setCell ⟨R, 1, none⟩ (.int .u64 x.h)).setCell ⟨R, 2, none⟩ (.int .u64 x.l)).drew k) ∧ (∀ (W : World) (k : Nat), W.heap.size = B → W.grownBy w (some k) → W.grownBy ((((((w.setCell ⟨S, 0, none⟩ (.int .i64 y.f)).setCell ⟨S, 1, none⟩ (.int .u64 y.h)).setCell ⟨S, 2, none⟩ (.int .u64 y.l)).setCell ⟨R, 0, none⟩ (.int .i64 x.f)).setCell ⟨R, 1, none⟩ (.int .u64 x.h)).setCell ⟨R, 2, none⟩ (.int .u64 x.l)).drew (some k)) := by
  have hne' : ¬ S = R := fun e => hne e.symm
  refine ⟨?_, ?_, ?_, ?_, ?_⟩
  · obtain ⟨c0, c1, c2, fr⟩ := hr
    exact ⟨by go_simp, by go_simp, by go_simp, fun j => by go_simp⟩
  · obtain ⟨c0, c1, c2, fr⟩ := hs
    exact ⟨by go_simp, by go_simp, by go_simp, fun j => by go_simp⟩
  · intro W hW hb
    exact ((((((hb.setCell (p := ⟨S, 0, none⟩) (by simp <;> omega) _).setCell (p := ⟨S, 1, none⟩) (by simp <;> omega) _).setCell (p := ⟨S, 2, none⟩) (by simp <;> omega) _).setCell (p := ⟨R, 0, none⟩) (by simp <;> omega) _).setCell (p := ⟨R, 1, none⟩) (by simp <;> omega) _).setCell (p := ⟨R, 2, none⟩) (by simp <;> omega) _).trans (drew_below ⟨1, rfl⟩)
  · intro W0 k hc hB hk
    refine Cod.below ?_ (drew_below ⟨1, rfl⟩)
    repeat' (first | with_reducible exact hc | (with_reducible refine Cod.set ?_ _ _ _ (by omega) (by omega)))
  · intro W k hW hg
    refine grown_trans ?_ (grown_drewN _ 1 _)
    repeat' (first | with_reducible exact hg | (with_reducible refine grown_set_new ?_ _ _ _ (by omega)))

/-- A range of addresses of a family. -/
structure RangeA (f : Int) (lo hi : Ad) : Prop where
  dlo : DrawA f lo
  dhi : DrawA f hi
  le : keyA lo ≤ keyA hi
theorem PreA.range {a lo hi : Ad} {f : Int} (hf : f = 4 ∨ f = 6) (d : DrawA f a) (p : PreA a lo hi) : RangeA f lo hi := by
  have e := d.fam
  have h1 := p.h1
  have h2 := p.h2
  have l1 := p.l1
  have l2 := p.l2
  have v := d.ok
  have fh := d.fit.h
  have fl := d.fit.l
  have q1 : lo.f = f := p.f1.trans e
  have q2 : hi.f = f := p.f2.trans e
  have four := p.four
  rw [e] at four
  have hz : f = 4 → a.h = 0 ∧ a.l < 4294967296 := by
    intro h
    unfold validA at v
    rw [e, h] at v
    simp at v
    exact v
  refine ⟨⟨q1, ⟨by omega, by omega, by omega⟩, ?_⟩, ⟨q2, ⟨by omega, by omega, by omega⟩, ?_⟩, ?_⟩
  · unfold validA
    rw [q1]
    rcases hf with h | h
    · have := hz h
      simp [h]
      omega
    · simp [h]
  · unfold validA
    rw [q2]
    rcases hf with h | h
    · have := four h
      simp [h]
      omega
    · simp [h]
  · unfold keyA
    rw [q1, q2]
    omega
theorem draw_zero (f : Int) (hf : f = 4 ∨ f = 6) : DrawA f ⟨f, 0, 0⟩ := ⟨rfl, ⟨by simp; omega, by simp, by simp⟩, by unfold validA; rcases hf with rfl | rfl <;> decide⟩

set_option maxHeartbeats 1600000 in
set_option maxRecDepth 100000 in
theorem all_any (f : Int) (hf : f = 4 ∨ f = 6) (w : World) :
    Calls Tryz.prog 93 #[.int .i64 f] w fun e w' => ∃ lo hi : Ad, e = .returned (.tuple #[(.agg #[.int .i64 lo.f, .int .u64 lo.h, .int .u64 lo.l]), (.agg #[.int .i64 hi.f, .int .u64 hi.h, .int .u64 hi.l])]) ∧ RangeA f lo hi ∧ Below w.heap.size w w' := by
  have hz := draw_zero f hf
  have HPX := hidden (prefix_any ⟨f, 0, 0⟩ hz.fit hz.ok 0 ⟨by omega, by omega⟩)
  have HRG := hidden (fun lo hi (p : PreA ⟨f, 0, 0⟩ lo hi) => p.range hf hz)
  have HB := hidden (below_two (w := w) (.cells #[.int .i64 0, .int .u64 0, .int .u64 0] 114) (.cells #[.int .i64 0, .int .u64 0, .int .u64 0] 114))
  have HR := hidden ((AdIn.new w zeroA 114).alloc (.cells #[.int .i64 0, .int .u64 0, .int .u64 0] 114))
  have HS : Hid (AdIn ((w.alloc (.cells #[.int .i64 0, .int .u64 0, .int .u64 0] 114)).alloc (.cells #[.int .i64 0, .int .u64 0, .int .u64 0] 114)) (w.heap.size + 1) zeroA) := hidden (by
    have := (AdIn.new (w.alloc (.cells #[.int .i64 0, .int .u64 0, .int .u64 0] 114)) zeroA 114)
    simpa [zeroA] using this)
  clear hz
  go_enter Tryz.func93, Tryz.ntmps93
  go_wp2_with (go_at_call 94; (with_reducible refine (HPX.out _).mono ?_); rintro e w1 ⟨lo, hi, rfl, hp, hb⟩; have HRA := hidden (HRG.out _ _ hp); have HB1 := hidden (HB.out.trans (hb.mono HB.out.size)); have HR1 := hidden (((HR.out.below hb).alloc (.cells #[.int .i64 lo.f, .int .u64 lo.h, .int .u64 lo.l] 114)).alloc (.cells #[.int .i64 hi.f, .int .u64 hi.h, .int .u64 hi.l] 114)); have HS1 := hidden (((HS.out.below hb).alloc (.cells #[.int .i64 lo.f, .int .u64 lo.h, .int .u64 lo.l] 114)).alloc (.cells #[.int .i64 hi.f, .int .u64 hi.h, .int .u64 hi.l] 114)); have hs1 := (HS.out.below hb).lt; clear hp hb HB HR HS HPX HRG)
  obtain ⟨r0, r1, r2, rf⟩ := HR1.out
  obtain ⟨s0, s1, s2, sf⟩ := HS1.out
  go_region
  all_goals go_wp2_with fail
  all_goals first
    | (obtain ⟨z1, z2, z3, z4, z5⟩ := put_two1 (B := w.heap.size) (x := lo) (y := hi) HR1.out HS1.out (by omega) (by omega) (by omega)
       refine ret_ad2 (g1 := w.heap.size) (g2 := w.heap.size + 1) (x := lo) (y := hi) rfl rfl rfl rfl z1 z2 ?_
       exact ⟨lo, hi, rfl, HRA.out, z3 w rfl ((HB1.out.alloc HB1.out.size _).alloc (by have := HB1.out.size; simp; omega) _)⟩)
    | (obtain ⟨z1, z2, z3, z4, z5⟩ := put_two2 (B := w.heap.size) (x := lo) (y := hi) HR1.out HS1.out (by omega) (by omega) (by omega)
       refine ret_ad2 (g1 := w.heap.size) (g2 := w.heap.size + 1) (x := lo) (y := hi) rfl rfl rfl rfl z1 z2 ?_
       exact ⟨lo, hi, rfl, HRA.out, z3 w rfl ((HB1.out.alloc HB1.out.size _).alloc (by have := HB1.out.size; simp; omega) _)⟩)
    | fail
end Go.Proofs.YtkniifopfgeopaaGreat

namespace Go.Proofs.YtkniifopfgeopaaGreat
open Go.RowKit
set_option linter.unusedVariables false

/-- What Span returns. -/
def MadeR (W w : World) (k : Nat) (f : Int) (e : Ending) (w' : World) : Prop := ∃ lo hi : Ad, e = .returned (.tuple #[(.agg #[.int .i64 lo.f, .int .u64 lo.h, .int .u64 lo.l]), (.agg #[.int .i64 hi.f, .int .u64 hi.h, .int .u64 hi.l])]) ∧ RangeA f lo hi ∧ Cod W w' k ∧ w.grownBy w' (some k)
/-- Where Span stands: its two results. -/
structure SS (W w wx : World) (k : Nat) : Prop where
  cod : Cod W wx k
  gr : w.grownBy wx (some k)
  R : AdIn wx w.heap.size zeroA
  S : AdIn wx (w.heap.size + 1) zeroA
theorem SS.grown {W w wx wy : World} {k : Nat} (h : SS W w wx k) (hk : k < w.heap.size) (hc : Cod W wy k) (hg : wx.grownBy wy (some k)) : SS W w wy k :=
  ⟨hc, grown_trans h.gr hg, h.R.grown hg (by simp; omega), h.S.grown hg (by simp; omega)⟩
theorem SS.below {W w wx wy : World} {k : Nat} (h : SS W w wx k) (hb : Below wx.heap.size wx wy) : SS W w wy k :=
  ⟨h.cod.below hb, grown_trans h.gr (grown_of_below hb _), h.R.below hb, h.S.below hb⟩
theorem SS.alloc {W w wx : World} {k : Nat} (h : SS W w wx k) (o : Obj) : SS W w (wx.alloc o) k := h.below ((Below.refl _ _).alloc (Nat.le_refl _) o)

theorem key_fam {f : Int} {x y : Ad} (hx : DrawA f x) (hy : DrawA f y) (h : x.h < y.h ∨ (x.h = y.h ∧ x.l ≤ y.l)) : keyA x ≤ keyA y := by
  have h1 := hx.fam
  have h2 := hy.fam
  have h3 := hx.fit.l
  have h4 := hy.fit.l
  unfold keyA
  omega

set_option maxHeartbeats 3200000 in
set_option maxRecDepth 100000 in
theorem span_any (W w : World) (k : Nat) (h : Cod W w k) (f : Int) (hf : f = 4 ∨ f = 6) :
    Calls Tryz.prog 67 #[.pointer (some ⟨k, 0, none⟩), .int .i64 f] w (MadeR W w k f) := by
  have hk := h.lt
  have hbase := h.bel.size
  have H0 := hidden (show SS W w ((w.alloc (.cells #[.int .i64 0, .int .u64 0, .int .u64 0] 114)).alloc (.cells #[.int .i64 0, .int .u64 0, .int .u64 0] 114)) k from
    ⟨(h.alloc _).alloc _, grown_alloc_new (World.grownBy_alloc w _ _) _, (AdIn.new w zeroA 114).alloc _, by
      have := AdIn.new (w.alloc (.cells #[.int .i64 0, .int .u64 0, .int .u64 0] 114)) zeroA 114
      simpa [zeroA] using this⟩)
  have HAL := hidden (all_any f hf)
  have HAD := hidden (fun w' (hc : Cod W w' k) => addr_any W w' k hc f hf)
  have hB : 33 ≤ 128 := by omega
  have HPR := hidden (fun (a : Ad) (d : DrawA f a) (n : Int) (hn : 0 ≤ n ∧ n ≤ bitsF a.f) => prefix_any a d.fit d.ok n hn)
  have HBI : Hid (∀ (a : Ad), DrawA f a → 32 ≤ bitsF a.f) := hidden (fun a d => by unfold bitsF; split <;> omega)
  clear h
  have HF := hidden hf
  clear hf
  go_enter Tryz.func67, Tryz.ntmps67
  go_upto_region 2 with (go_at_call 18; (with_reducible refine (next_any W _ k ?_ _ ?_).mono ?_); exact H0.out.cod; omega; rintro e w1 ⟨r, rfl, r0, r1, hc, hg⟩; have H1 := hidden (H0.out.grown hk hc hg); clear hc hg H0)
  have hr : r = 0 ∨ r = 1 ∨ ((r == 0) = false ∧ (r == 1) = false) := by simp; omega
  rcases hr with rfl | rfl | ⟨k1, k2⟩
  · go_wp2_with (go_at_call 93; (with_reducible refine (HAL.out _).mono ?_); rintro e w2 ⟨lo, hi, rfl, hra, hb⟩; have HRA := hidden hra; have H2 := hidden (H1.out.below hb); obtain ⟨p0, p1, p2, pf⟩ := H2.out.R; obtain ⟨s0, s1, s2, sf⟩ := H2.out.S; clear hra hb H1)
    obtain ⟨z1, z2, z3, z4, z5⟩ := put_two0 (B := w.heap.size) (x := lo) (y := hi) H2.out.R H2.out.S (by omega) (by omega) (by omega)
    refine ret_ad2 (g1 := w.heap.size) (g2 := w.heap.size + 1) (x := lo) (y := hi) rfl rfl rfl rfl z1 z2 ?_
    exact ⟨lo, hi, rfl, HRA.out, z4 W k H2.out.cod hbase hk, z5 w k rfl H2.out.gr⟩
  · go_upto_region 6 with (first
      | (go_at_call 95; (with_reducible refine (HAD.out _ H1.out.cod).mono ?_); rintro e w2 ⟨a, rfl, hda, hc, hg⟩; have HDA := hidden hda; have H2 := hidden (H1.out.grown hk hc hg); clear hda hc hg H1)
      | (go_at_call 18; (with_reducible refine (next_any W _ k ?_ _ ?_).mono ?_); exact H2.out.cod; omega; rintro e w3 ⟨r, rfl, r0, r1, hc, hg⟩; have H3 := hidden (H2.out.grown hk hc hg); clear hc hg H2)
      | (go_at_call 94; (refine (HPR.out a HDA.out _ ⟨by omega, by have := HBI.out a HDA.out; omega⟩ _).mono ?_); rintro e w4 ⟨lo, hi, rfl, hp, hb⟩; have HRA := hidden (hp.range HF.out HDA.out); have H4 := hidden (((H3.out.below hb).alloc (.cells #[.int .i64 lo.f, .int .u64 lo.h, .int .u64 lo.l] 114)).alloc (.cells #[.int .i64 hi.f, .int .u64 hi.h, .int .u64 hi.l] 114)); have hs4 := (H3.out.below hb).S.lt; clear hp hb H3)
      | fail)
    obtain ⟨p0, p1, p2, pf⟩ := H4.out.R
    obtain ⟨s0, s1, s2, sf⟩ := H4.out.S
    go_region
    all_goals go_wp2_with fail
    all_goals first
      | (obtain ⟨z1, z2, z3, z4, z5⟩ := put_two1 (B := w.heap.size) (x := lo) (y := hi) H4.out.R H4.out.S (by omega) (by omega) (by omega)
         refine ret_ad2 (g1 := w.heap.size) (g2 := w.heap.size + 1) (x := lo) (y := hi) rfl rfl rfl rfl z1 z2 ?_
         exact ⟨lo, hi, rfl, HRA.out, z4 W k H4.out.cod hbase hk, z5 w k rfl H4.out.gr⟩)
      | (obtain ⟨z1, z2, z3, z4, z5⟩ := put_two2 (B := w.heap.size) (x := lo) (y := hi) H4.out.R H4.out.S (by omega) (by omega) (by omega)
         refine ret_ad2 (g1 := w.heap.size) (g2 := w.heap.size + 1) (x := lo) (y := hi) rfl rfl rfl rfl z1 z2 ?_
         exact ⟨lo, hi, rfl, HRA.out, z4 W k H4.out.cod hbase hk, z5 w k rfl H4.out.gr⟩)
      | fail
  · go_upto_region 8 with (first
      | (go_at_call 95; (with_reducible refine (HAD.out _ H1.out.cod).mono ?_); rintro e w2 ⟨a, rfl, hda, hc, hg⟩; have HDA := hidden hda; have H2 := hidden (H1.out.grown hk hc hg); clear hda hc hg H1)
      | (go_at_call 95; (with_reducible refine (HAD.out _ H2.out.cod).mono ?_); rintro e w3 ⟨b, rfl, hdb, hc, hg⟩; have HDB := hidden hdb; have H3 := hidden (((H2.out.grown hk hc hg).alloc (.cells #[.int .i64 a.f, .int .u64 a.h, .int .u64 a.l] 114)).alloc (.cells #[.int .i64 b.f, .int .u64 b.h, .int .u64 b.l] 114)); have hs3 := (H2.out.grown hk hc hg).S.lt; clear hdb hc hg H2)
      | fail)
    obtain ⟨p0, p1, p2, pf⟩ := H3.out.R
    obtain ⟨s0, s1, s2, sf⟩ := H3.out.S
    have hsw : (b.h < a.h ∧ True) ∨ (¬ b.h < a.h ∧ (a.h == b.h) = true ∧ b.l < a.l) ∨ (¬ b.h < a.h ∧ (a.h == b.h) = true ∧ ¬ b.l < a.l) ∨ (¬ b.h < a.h ∧ (a.h == b.h) = false) := by simp; omega
    rcases hsw with ⟨q1, -⟩ | ⟨q1, q2, q3⟩ | ⟨q1, q2, q3⟩ | ⟨q1, q2⟩
    · have HRA := hidden (RangeA.mk HDB.out HDA.out (key_fam HDB.out HDA.out (by omega)))
      go_upto_region 9 with fail
      go_region
      all_goals go_wp2_with fail
      all_goals first
        | (obtain ⟨z1, z2, z3, z4, z5⟩ := put_two1 (B := w.heap.size) (x := b) (y := a) H3.out.R H3.out.S (by omega) (by omega) (by omega)
           refine ret_ad2 (g1 := w.heap.size) (g2 := w.heap.size + 1) (x := b) (y := a) rfl rfl rfl rfl z1 z2 ?_
           exact ⟨b, a, rfl, HRA.out, z4 W k H3.out.cod hbase hk, z5 w k rfl H3.out.gr⟩)
        | (obtain ⟨z1, z2, z3, z4, z5⟩ := put_two2 (B := w.heap.size) (x := b) (y := a) H3.out.R H3.out.S (by omega) (by omega) (by omega)
           refine ret_ad2 (g1 := w.heap.size) (g2 := w.heap.size + 1) (x := b) (y := a) rfl rfl rfl rfl z1 z2 ?_
           exact ⟨b, a, rfl, HRA.out, z4 W k H3.out.cod hbase hk, z5 w k rfl H3.out.gr⟩)
        | fail
    · have HRA := hidden (RangeA.mk HDB.out HDA.out (key_fam HDB.out HDA.out (by simp at q2; omega)))
      go_upto_region 9 with fail
      go_region
      all_goals go_wp2_with fail
      all_goals first
        | (obtain ⟨z1, z2, z3, z4, z5⟩ := put_two1 (B := w.heap.size) (x := b) (y := a) H3.out.R H3.out.S (by omega) (by omega) (by omega)
           refine ret_ad2 (g1 := w.heap.size) (g2 := w.heap.size + 1) (x := b) (y := a) rfl rfl rfl rfl z1 z2 ?_
           exact ⟨b, a, rfl, HRA.out, z4 W k H3.out.cod hbase hk, z5 w k rfl H3.out.gr⟩)
        | (obtain ⟨z1, z2, z3, z4, z5⟩ := put_two2 (B := w.heap.size) (x := b) (y := a) H3.out.R H3.out.S (by omega) (by omega) (by omega)
           refine ret_ad2 (g1 := w.heap.size) (g2 := w.heap.size + 1) (x := b) (y := a) rfl rfl rfl rfl z1 z2 ?_
           exact ⟨b, a, rfl, HRA.out, z4 W k H3.out.cod hbase hk, z5 w k rfl H3.out.gr⟩)
        | fail
    · have HRA := hidden (RangeA.mk HDA.out HDB.out (key_fam HDA.out HDB.out (by simp at q2; omega)))
      go_upto_region 10 with fail
      go_region
      all_goals go_wp2_with fail
      all_goals first
        | (obtain ⟨z1, z2, z3, z4, z5⟩ := put_two1 (B := w.heap.size) (x := a) (y := b) H3.out.R H3.out.S (by omega) (by omega) (by omega)
           refine ret_ad2 (g1 := w.heap.size) (g2 := w.heap.size + 1) (x := a) (y := b) rfl rfl rfl rfl z1 z2 ?_
           exact ⟨a, b, rfl, HRA.out, z4 W k H3.out.cod hbase hk, z5 w k rfl H3.out.gr⟩)
        | (obtain ⟨z1, z2, z3, z4, z5⟩ := put_two2 (B := w.heap.size) (x := a) (y := b) H3.out.R H3.out.S (by omega) (by omega) (by omega)
           refine ret_ad2 (g1 := w.heap.size) (g2 := w.heap.size + 1) (x := a) (y := b) rfl rfl rfl rfl z1 z2 ?_
           exact ⟨a, b, rfl, HRA.out, z4 W k H3.out.cod hbase hk, z5 w k rfl H3.out.gr⟩)
        | fail
    · have HRA := hidden (RangeA.mk HDA.out HDB.out (key_fam HDA.out HDB.out (by simp at q2; omega)))
      go_upto_region 10 with fail
      go_region
      all_goals go_wp2_with fail
      all_goals first
        | (obtain ⟨z1, z2, z3, z4, z5⟩ := put_two1 (B := w.heap.size) (x := a) (y := b) H3.out.R H3.out.S (by omega) (by omega) (by omega)
           refine ret_ad2 (g1 := w.heap.size) (g2 := w.heap.size + 1) (x := a) (y := b) rfl rfl rfl rfl z1 z2 ?_
           exact ⟨a, b, rfl, HRA.out, z4 W k H3.out.cod hbase hk, z5 w k rfl H3.out.gr⟩)
        | (obtain ⟨z1, z2, z3, z4, z5⟩ := put_two2 (B := w.heap.size) (x := a) (y := b) H3.out.R H3.out.S (by omega) (by omega) (by omega)
           refine ret_ad2 (g1 := w.heap.size) (g2 := w.heap.size + 1) (x := a) (y := b) rfl rfl rfl rfl z1 z2 ?_
           exact ⟨a, b, rfl, HRA.out, z4 W k H3.out.cod hbase hk, z5 w k rfl H3.out.gr⟩)
        | fail
end Go.Proofs.YtkniifopfgeopaaGreat
