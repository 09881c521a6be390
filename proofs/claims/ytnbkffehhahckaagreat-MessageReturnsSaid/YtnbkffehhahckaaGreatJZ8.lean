/-
  Ranges of addresses: all of a family, and the drawn ones.
  The range of addresses that a list of choices makes.
  The selector that a list of choices makes: it is good, and of the family that is asked for.
  What package proposal writes of a section and of a transform.
  What package proposal reads of the inside of a transform, or throws.
  What package proposal reads of transforms one behind the other, or throws.
  What package proposal reads of the inside of a proposal, or throws.
  A map of the call's own from transforms to bools that holds just those of a list.
  A list of choices: some bytes.
-/
import Derived.Test.YtnbkffehhahckaaGreatJZ4
import Derived.Test.YtnbkffehhahckaaGreatJZ3
import Derived.Test.YtnbkffehhahckaaGreatJZ1
import Derived.Test.YtnbkffehhahckaaGreatJZ0
import Derived.Maps.OwnOps
import Derived.Maps.Views
import Derived.DeepKeys4
namespace Go.Proofs.YtnbkffehhahckaaGreat
open Go.RowKit
set_option linter.unusedVariables false
theorem put_two0 {w : World} {B R S : Nat} {r s x y : Ad} (hr : AdIn w R r) (hs : AdIn w S s) (hne : R ≠ S) (h1 : B ≤ R) (h2 : B ≤ S) : AdIn ((((((w.setCell ⟨R, 0, none⟩ (.int .i64 x.f)).setCell ⟨R, 1, none⟩ (.int .u64 x.h)).setCell ⟨R, 2, none⟩ (.int .u64 x.l)).setCell ⟨S, 0, none⟩ (.int .i64 y.f)).setCell ⟨S, 1, none⟩ (.int .u64 y.h)).setCell ⟨S, 2, none⟩ (.int .u64 y.l)) R x ∧ AdIn ((((((w.setCell ⟨R, 0, none⟩ (.int .i64 x.f)).setCell ⟨R, 1, none⟩ (.int .u64 x.h)).setCell ⟨R, 2, none⟩ (.int .u64 x.l)).setCell ⟨S, 0, none⟩ (.int .i64 y.f)).setCell ⟨S, 1, none⟩ (.int .u64 y.h)).setCell ⟨S, 2, none⟩ (.int .u64 y.l)) S y ∧ (∀ W : World, W.heap.size = B → Below B W w → Below B W ((((((w.setCell ⟨R, 0, none⟩ (.int .i64 x.f)).setCell ⟨R, 1, none⟩ (.int .u64 x.h)).setCell ⟨R, 2, none⟩ (.int .u64 x.l)).setCell ⟨S, 0, none⟩ (.int .i64 y.f)).setCell ⟨S, 1, none⟩ (.int .u64 y.h)).setCell ⟨S, 2, none⟩ (.int .u64 y.l))) ∧ (∀ (W0 : World) (k : Nat), Cod W0 w k → W0.heap.size ≤ B → k < B → Cod W0 ((((((w.setCell ⟨R, 0, none⟩ (.int .i64 x.f)).setCell ⟨R, 1, none⟩ (.int .u64 x.h)).setCell ⟨R, 2, none⟩ (.int .u64 x.l)).setCell ⟨S, 0, none⟩ (.int .i64 y.f)).setCell ⟨S, 1, none⟩ (.int .u64 y.h)).setCell ⟨S, 2, none⟩ (.int .u64 y.l)) k) ∧ (∀ (W : World) (k : Nat), W.heap.size = B → W.grownBy w (some k) → W.grownBy ((((((w.setCell ⟨R, 0, none⟩ (.int .i64 x.f)).setCell ⟨R, 1, none⟩ (.int .u64 x.h)).setCell ⟨R, 2, none⟩ (.int .u64 x.l)).setCell ⟨S, 0, none⟩ (.int .i64 y.f)).setCell ⟨S, 1, none⟩ (.int .u64 y.h)).setCell ⟨S, 2, none⟩ (.int .u64 y.l)) (some k)) := by
  have hne' : ¬ S = R := fun e => hne e.symm
  refine ⟨?_, ?_, ?_, ?_, ?_⟩
  · obtain ⟨c0, c1, c2, fr⟩ := hr
    exact ⟨by go_simp, by go_simp, by go_simp, fun j => by go_simp⟩
  · obtain ⟨c0, c1, c2, fr⟩ := hs
    exact ⟨by go_simp, by go_simp, by go_simp, fun j => by go_simp⟩
  · intro W hW hb
    exact ((((((hb.setCell (p := ⟨R, 0, none⟩) (by simp <;> omega) _).setCell (p := ⟨R, 1, none⟩) (by simp <;> omega) _).setCell (p := ⟨R, 2, none⟩) (by simp <;> omega) _).setCell (p := ⟨S, 0, none⟩) (by simp <;> omega) _).setCell (p := ⟨S, 1, none⟩) (by simp <;> omega) _).setCell (p := ⟨S, 2, none⟩) (by simp <;> omega) _)
  · intro W0 k hc hB hk
    repeat' (first | with_reducible exact hc | (with_reducible refine Cod.set ?_ _ _ _ (by omega) (by omega)))
  · intro W k hW hg
    repeat' (first | with_reducible exact hg | (with_reducible refine grown_set_new ?_ _ _ _ (by omega)))
theorem put_two1 {w : World} {B R S : Nat} {r s x y : Ad} (hr : AdIn w R r) (hs : AdIn w S s) (hne : R ≠ S) (h1 : B ≤ R) (h2 : B ≤ S) : AdIn ((((((w.setCell ⟨R, 0, none⟩ (.int .i64 x.f)).setCell ⟨R, 1, none⟩ (.int .u64 x.h)).setCell ⟨R, 2, none⟩ (.int .u64 x.l)).setCell ⟨S, 0, none⟩ (.int .i64 y.f)).setCell ⟨S, 1, none⟩ (.int .u64 y.h)).setCell ⟨S, 2, none⟩ (.int .u64 y.l)).drew R x ∧ AdIn ((((((w.setCell ⟨R, 0, none⟩ (.int .i64 x.f)).setCell ⟨R, 1, none⟩ (.int .u64 x.h)).setCell ⟨R, 2, none⟩ (.int .u64 x.l)).setCell ⟨S, 0, none⟩ (.int .i64 y.f)).setCell ⟨S, 1, none⟩ (.int .u64 y.h)).setCell ⟨S, 2, none⟩ (.int .u64 y.l)).drew S y ∧ (∀ W : World, W.heap.size = B → Below B W w → Below B W ((((((w.setCell ⟨R, 0, none⟩ (.int .i64 x.f)).setCell ⟨R, 1, none⟩ (.int .u64 x.h)).setCell ⟨R, 2, none⟩ (.int .u64 x.l)).setCell ⟨S, 0, none⟩ (.int .i64 y.f)).setCell ⟨S, 1, none⟩ (.int .u64 y.h)).setCell ⟨S, 2, none⟩ (.int .u64 y.l)).drew) ∧ (∀ (W0 : World) (k : Nat), Cod W0 w k → W0.heap.size ≤ B → k < B → Cod W0 ((((((w.setCell ⟨R, 0, none⟩ (.int .i64 x.f)).setCell ⟨R, 1, none⟩ (.int .u64 x.h)).setCell ⟨R, 2, none⟩ (.int .u64 x.l)).setCell ⟨S, 0, none⟩ (.int .i64 y.f)).setCell ⟨S, 1, none⟩ (.int .u64 y.h)).setCell ⟨S, 2, none⟩ (.int .u64 y.l)).drew k) ∧ (∀ (W : World) (k : Nat), W.heap.size = B → W.grownBy w (some k) → W.grownBy ((((((w.setCell ⟨R, 0, none⟩ (.int .i64 x.f)).setCell ⟨R, 1, none⟩ (.int .u64 x.h)).setCell ⟨R, 2, none⟩ (.int .u64 x.l)).setCell ⟨S, 0, none⟩ (.int .i64 y.f)).setCell ⟨S, 1, none⟩ (.int .u64 y.h)).setCell ⟨S, 2, none⟩ (.int .u64 y.l)).drew (some k)) := by
  have hne' : ¬ S = R := fun e => hne e.symm
  refine ⟨?_, ?_, ?_, ?_, ?_⟩
  · obtain ⟨c0, c1, c2, fr⟩ := hr
    exact ⟨by go_simp, by go_simp, by go_simp, fun j => by go_simp⟩
  · obtain ⟨c0, c1, c2, fr⟩ := hs
    exact ⟨by go_simp, by go_simp, by go_simp, fun j => by go_simp⟩
  · intro W hW hb
    exact ((((((hb.setCell (p := ⟨R, 0, none⟩) (by simp <;> omega) _).setCell (p := ⟨R, 1, none⟩) (by simp <;> omega) _).setCell (p := ⟨R, 2, none⟩) (by simp <;> omega) _).setCell (p := ⟨S, 0, none⟩) (by simp <;> omega) _).setCell (p := ⟨S, 1, none⟩) (by simp <;> omega) _).setCell (p := ⟨S, 2, none⟩) (by simp <;> omega) _).trans (drew_below ⟨1, rfl⟩)
  · intro W0 k hc hB hk
    refine Cod.below ?_ (drew_below ⟨1, rfl⟩)
    repeat' (first | with_reducible exact hc | (with_reducible refine Cod.set ?_ _ _ _ (by omega) (by omega)))
  · intro W k hW hg
    refine grown_trans ?_ (grown_drewN _ 1 _)
    repeat' (first | with_reducible exact hg | (with_reducible refine grown_set_new ?_ _ _ _ (by omega)))
theorem put_two2 {w : World} {B R S : Nat} {r s x y : Ad} (hr : AdIn w R r) (hs : AdIn w S s) (hne : R ≠ S) (h1 : B ≤ R) (h2 : B ≤ S) : AdIn ((((((w.setCell ⟨S, 0, none⟩ (.int .i64 y.f)).setCell ⟨S, 1, none⟩ (.int .u64 y.h)).setCell ⟨S, 2, none⟩ (.int .u64 y.l)).setCell ⟨R, 0, none⟩ (.int .i64 x.f)).setCell ⟨R, 1, none⟩ (.int .u64 x.h)).setCell ⟨R, 2, none⟩ (.int .u64 x.l)).drew R x ∧ AdIn ((((((w.setCell ⟨S, 0, none⟩ (.int .i64 y.f)).setCell ⟨S, 1, none⟩ (.int .u64 y.h)).setCell ⟨S, 2, none⟩ (.int .u64 y.l)).setCell ⟨R, 0, none⟩ (.int .i64 x.f)).setCell ⟨R, 1, none⟩ (.int .u64 x.h)).setCell ⟨R, 2, none⟩ (.int .u64 x.l)).drew S y ∧ (∀ W : World, W.heap.size = B → Below B W w → Below B W ((((((w.setCell ⟨S, 0, none⟩ (.int .i64 y.f)).setCell ⟨S, 1, none⟩ (.int .u64 y.h)).setCell ⟨S, 2, none⟩ (.int .u64 y.l)).setCell ⟨R, 0, none⟩ (.int .i64 x.f)).setCell ⟨R, 1, none⟩ (.int .u64 x.h)).setCell ⟨R, 2, none⟩ (.int .u64 x.l)).drew) ∧ (∀ (W0 : World) (k : Nat), Cod W0 w k → W0.heap.size ≤ B → k < B → Cod W0 ((((((w.setCell ⟨S, 0, none⟩ (.int .i64 y.f)).setCell ⟨S, 1, none⟩ (.int .u64 y.h)).setCell ⟨S, 2, none⟩ (.int .u64 y.l)).setCell ⟨R, 0, none⟩ (.int .i64 x.f)).setCell ⟨R, 1, none⟩ (.int .u64 x.h)).setCell ⟨R, 2, none⟩ (.int .u64 x.l)).drew k) ∧ (∀ (W : World) (k : Nat), W.heap.size = B → W.grownBy w (some k) → W.grownBy ((((((w.setCell ⟨S, 0, none⟩ (.int .i64 y.f)).setCell ⟨S, 1, none⟩ (.int .u64 y.h)).setCell ⟨S, 2, none⟩ (.int .u64 y.l)).setCell ⟨R, 0, none⟩ (.int .i64 x.f)).setCell ⟨R, 1, none⟩ (.int .u64 x.h)).setCell ⟨R, 2, none⟩ (.int .u64 x.l)).drew (some k)) := by
  have hne' : ¬ S = R := fun e => hne e.symm
  refine ⟨?_, ?_, ?_, ?_, ?_⟩
  · obtain ⟨c0, c1, c2, fr⟩ := hr
    exact ⟨by go_simp, by go_simp, by go_simp, fun j => by go_simp⟩
  · obtain ⟨c0, c1, c2, fr⟩ := hs
    exact ⟨by go_simp, by go_simp, by go_simp, fun j => by go_simp⟩
  · intro W hW hb
    exact ((((((hb.setCell (p := ⟨S, 0, none⟩) (by simp <;> omega) _).setCell (p := ⟨S, 1, none⟩) (by simp <;> omega) _).setCell (p := ⟨S, 2, none⟩) (by simp <;> omega) _).setCell (p := ⟨R, 0, none⟩) (by simp <;> omega) _).setCell (p := ⟨R, 1, none⟩) (by simp <;> omega) _).setCell (p := ⟨R, 2, none⟩) (by simp <;> omega) _).trans (drew_below ⟨1, rfl⟩)
  · intro W0 k hc hB hk
    refine Cod.below ?_ (drew_below ⟨1, rfl⟩)
    repeat' (first | with_reducible exact hc | (with_reducible refine Cod.set ?_ _ _ _ (by omega) (by omega)))
  · intro W k hW hg
    refine grown_trans ?_ (grown_drewN _ 1 _)
    repeat' (first | with_reducible exact hg | (with_reducible refine grown_set_new ?_ _ _ _ (by omega)))
structure RangeA (f : Int) (lo hi : Ad) : Prop where
  dlo : DrawA f lo
  dhi : DrawA f hi
  le : keyA lo ≤ keyA hi
theorem PreA.range {a lo hi : Ad} {f : Int} (hf : f = 4 ∨ f = 6) (d : DrawA f a) (p : PreA a lo hi) : RangeA f lo hi := by
  have e := d.fam
  have h1 := p.h1
  have h2 := p.h2
  have l1 := p.l1
  have l2 := p.l2
  have v := d.ok
  have fh := d.fit.h
  have fl := d.fit.l
  have q1 : lo.f = f := p.f1.trans e
  have q2 : hi.f = f := p.f2.trans e
  have four := p.four
  rw [e] at four
  have hz : f = 4 → a.h = 0 ∧ a.l < 4294967296 := by
    intro h
    unfold validA at v
    rw [e, h] at v
    simp at v
    exact v
  refine ⟨⟨q1, ⟨by omega, by omega, by omega⟩, ?_⟩, ⟨q2, ⟨by omega, by omega, by omega⟩, ?_⟩, ?_⟩
  · unfold validA
    rw [q1]
    rcases hf with h | h
    · have := hz h
      simp [h]
      omega
    · simp [h]
  · unfold validA
    rw [q2]
    rcases hf with h | h
    · have := four h
      simp [h]
      omega
    · simp [h]
  · unfold keyA
    rw [q1, q2]
    omega
theorem draw_zero (f : Int) (hf : f = 4 ∨ f = 6) : DrawA f ⟨f, 0, 0⟩ := ⟨rfl, ⟨by simp; omega, by simp, by simp⟩, by unfold validA; rcases hf with rfl | rfl <;> decide⟩
set_option maxHeartbeats 1600000 in
set_option maxRecDepth 100000 in
theorem all_any (f : Int) (hf : f = 4 ∨ f = 6) (w : World) :
    Calls Tryz.prog 84 #[.int .i64 f] w fun e w' => ∃ lo hi : Ad, e = .returned (.tuple #[(.agg #[.int .i64 lo.f, .int .u64 lo.h, .int .u64 lo.l]), (.agg #[.int .i64 hi.f, .int .u64 hi.h, .int .u64 hi.l])]) ∧ RangeA f lo hi ∧ Below w.heap.size w w' := by
  have hz := draw_zero f hf
  have HPX := hidden (prefix_any ⟨f, 0, 0⟩ hz.fit hz.ok 0 ⟨by omega, by omega⟩)
  have HRG := hidden (fun lo hi (p : PreA ⟨f, 0, 0⟩ lo hi) => p.range hf hz)
  have HB := hidden (below_two (w := w) (.cells #[.int .i64 0, .int .u64 0, .int .u64 0] 111) (.cells #[.int .i64 0, .int .u64 0, .int .u64 0] 111))
  have HR := hidden ((AdIn.new w zeroA 111).alloc (.cells #[.int .i64 0, .int .u64 0, .int .u64 0] 111))
  have HS : Hid (AdIn ((w.alloc (.cells #[.int .i64 0, .int .u64 0, .int .u64 0] 111)).alloc (.cells #[.int .i64 0, .int .u64 0, .int .u64 0] 111)) (w.heap.size + 1) zeroA) := hidden (by
    have := (AdIn.new (w.alloc (.cells #[.int .i64 0, .int .u64 0, .int .u64 0] 111)) zeroA 111)
    simpa [zeroA] using this)
  clear hz
  go_enter Tryz.func84, Tryz.ntmps84
  go_wp2_with (go_at_call 85; (with_reducible refine (HPX.out _).mono ?_); rintro e w1 ⟨lo, hi, rfl, hp, hb⟩; have HRA := hidden (HRG.out _ _ hp); have HB1 := hidden (HB.out.trans (hb.mono HB.out.size)); have HR1 := hidden (((HR.out.below hb).alloc (.cells #[.int .i64 lo.f, .int .u64 lo.h, .int .u64 lo.l] 111)).alloc (.cells #[.int .i64 hi.f, .int .u64 hi.h, .int .u64 hi.l] 111)); have HS1 := hidden (((HS.out.below hb).alloc (.cells #[.int .i64 lo.f, .int .u64 lo.h, .int .u64 lo.l] 111)).alloc (.cells #[.int .i64 hi.f, .int .u64 hi.h, .int .u64 hi.l] 111)); have hs1 := (HS.out.below hb).lt; clear hp hb HB HR HS HPX HRG)
  obtain ⟨r0, r1, r2, rf⟩ := HR1.out
  obtain ⟨s0, s1, s2, sf⟩ := HS1.out
  go_region
  all_goals go_wp2_with fail
  all_goals first
    | (obtain ⟨z1, z2, z3, z4, z5⟩ := put_two1 (B := w.heap.size) (x := lo) (y := hi) HR1.out HS1.out (by omega) (by omega) (by omega)
       refine ret_ad2 (g1 := w.heap.size) (g2 := w.heap.size + 1) (x := lo) (y := hi) rfl rfl rfl rfl z1 z2 ?_
       exact ⟨lo, hi, rfl, HRA.out, z3 w rfl ((HB1.out.alloc HB1.out.size _).alloc (by have := HB1.out.size; simp; omega) _)⟩)
    | (obtain ⟨z1, z2, z3, z4, z5⟩ := put_two2 (B := w.heap.size) (x := lo) (y := hi) HR1.out HS1.out (by omega) (by omega) (by omega)
       refine ret_ad2 (g1 := w.heap.size) (g2 := w.heap.size + 1) (x := lo) (y := hi) rfl rfl rfl rfl z1 z2 ?_
       exact ⟨lo, hi, rfl, HRA.out, z3 w rfl ((HB1.out.alloc HB1.out.size _).alloc (by have := HB1.out.size; simp; omega) _)⟩)
    | fail
end Go.Proofs.YtnbkffehhahckaaGreat

namespace Go.Proofs.YtnbkffehhahckaaGreat
open Go.RowKit
set_option linter.unusedVariables false
def MadeR (W w : World) (k : Nat) (f : Int) (e : Ending) (w' : World) : Prop := ∃ lo hi : Ad, e = .returned (.tuple #[(.agg #[.int .i64 lo.f, .int .u64 lo.h, .int .u64 lo.l]), (.agg #[.int .i64 hi.f, .int .u64 hi.h, .int .u64 hi.l])]) ∧ RangeA f lo hi ∧ Cod W w' k ∧ w.grownBy w' (some k)
structure SS (W w wx : World) (k : Nat) : Prop where
  cod : Cod W wx k
  gr : w.grownBy wx (some k)
  R : AdIn wx w.heap.size zeroA
  S : AdIn wx (w.heap.size + 1) zeroA
theorem SS.grown {W w wx wy : World} {k : Nat} (h : SS W w wx k) (hk : k < w.heap.size) (hc : Cod W wy k) (hg : wx.grownBy wy (some k)) : SS W w wy k :=
  ⟨hc, grown_trans h.gr hg, h.R.grown hg (by simp; omega), h.S.grown hg (by simp; omega)⟩
theorem SS.below {W w wx wy : World} {k : Nat} (h : SS W w wx k) (hb : Below wx.heap.size wx wy) : SS W w wy k :=
  ⟨h.cod.below hb, grown_trans h.gr (grown_of_below hb _), h.R.below hb, h.S.below hb⟩
theorem SS.alloc {W w wx : World} {k : Nat} (h : SS W w wx k) (o : Obj) : SS W w (wx.alloc o) k := h.below ((Below.refl _ _).alloc (Nat.le_refl _) o)
theorem key_fam {f : Int} {x y : Ad} (hx : DrawA f x) (hy : DrawA f y) (h : x.h < y.h ∨ (x.h = y.h ∧ x.l ≤ y.l)) : keyA x ≤ keyA y := by
  have h1 := hx.fam
  have h2 := hy.fam
  have h3 := hx.fit.l
  have h4 := hy.fit.l
  unfold keyA
  omega
set_option maxHeartbeats 3200000 in
set_option maxRecDepth 100000 in
theorem span_any (W w : World) (k : Nat) (h : Cod W w k) (f : Int) (hf : f = 4 ∨ f = 6) :
    Calls Tryz.prog 60 #[.pointer (some ⟨k, 0, none⟩), .int .i64 f] w (MadeR W w k f) := by
  have hk := h.lt
  have hbase := h.bel.size
  have H0 := hidden (show SS W w ((w.alloc (.cells #[.int .i64 0, .int .u64 0, .int .u64 0] 111)).alloc (.cells #[.int .i64 0, .int .u64 0, .int .u64 0] 111)) k from
    ⟨(h.alloc _).alloc _, grown_alloc_new (World.grownBy_alloc w _ _) _, (AdIn.new w zeroA 111).alloc _, by
      have := AdIn.new (w.alloc (.cells #[.int .i64 0, .int .u64 0, .int .u64 0] 111)) zeroA 111
      simpa [zeroA] using this⟩)
  have HAL := hidden (all_any f hf)
  have HAD := hidden (fun w' (hc : Cod W w' k) => addr_any W w' k hc f hf)
  have hB : 33 ≤ 128 := by omega
  have HPR := hidden (fun (a : Ad) (d : DrawA f a) (n : Int) (hn : 0 ≤ n ∧ n ≤ bitsF a.f) => prefix_any a d.fit d.ok n hn)
  have HBI : Hid (∀ (a : Ad), DrawA f a → 32 ≤ bitsF a.f) := hidden (fun a d => by unfold bitsF; split <;> omega)
  clear h
  have HF := hidden hf
  clear hf
  go_enter Tryz.func60, Tryz.ntmps60
  go_upto_region 2 with (go_at_call 13; (with_reducible refine (next_any W _ k ?_ _ ?_).mono ?_); exact H0.out.cod; omega; rintro e w1 ⟨r, rfl, r0, r1, hc, hg⟩; have H1 := hidden (H0.out.grown hk hc hg); clear hc hg H0)
  have hr : r = 0 ∨ r = 1 ∨ ((r == 0) = false ∧ (r == 1) = false) := by simp; omega
  rcases hr with rfl | rfl | ⟨k1, k2⟩
  · go_wp2_with (go_at_call 84; (with_reducible refine (HAL.out _).mono ?_); rintro e w2 ⟨lo, hi, rfl, hra, hb⟩; have HRA := hidden hra; have H2 := hidden (H1.out.below hb); obtain ⟨p0, p1, p2, pf⟩ := H2.out.R; obtain ⟨s0, s1, s2, sf⟩ := H2.out.S; clear hra hb H1)
    obtain ⟨z1, z2, z3, z4, z5⟩ := put_two0 (B := w.heap.size) (x := lo) (y := hi) H2.out.R H2.out.S (by omega) (by omega) (by omega)
    refine ret_ad2 (g1 := w.heap.size) (g2 := w.heap.size + 1) (x := lo) (y := hi) rfl rfl rfl rfl z1 z2 ?_
    exact ⟨lo, hi, rfl, HRA.out, z4 W k H2.out.cod hbase hk, z5 w k rfl H2.out.gr⟩
  · go_upto_region 6 with (first
      | (go_at_call 86; (with_reducible refine (HAD.out _ H1.out.cod).mono ?_); rintro e w2 ⟨a, rfl, hda, hc, hg⟩; have HDA := hidden hda; have H2 := hidden (H1.out.grown hk hc hg); clear hda hc hg H1)
      | (go_at_call 13; (with_reducible refine (next_any W _ k ?_ _ ?_).mono ?_); exact H2.out.cod; omega; rintro e w3 ⟨r, rfl, r0, r1, hc, hg⟩; have H3 := hidden (H2.out.grown hk hc hg); clear hc hg H2)
      | (go_at_call 85; (refine (HPR.out a HDA.out _ ⟨by omega, by have := HBI.out a HDA.out; omega⟩ _).mono ?_); rintro e w4 ⟨lo, hi, rfl, hp, hb⟩; have HRA := hidden (hp.range HF.out HDA.out); have H4 := hidden (((H3.out.below hb).alloc (.cells #[.int .i64 lo.f, .int .u64 lo.h, .int .u64 lo.l] 111)).alloc (.cells #[.int .i64 hi.f, .int .u64 hi.h, .int .u64 hi.l] 111)); have hs4 := (H3.out.below hb).S.lt; clear hp hb H3)
      | fail)
    obtain ⟨p0, p1, p2, pf⟩ := H4.out.R
    obtain ⟨s0, s1, s2, sf⟩ := H4.out.S
    go_region
    all_goals go_wp2_with fail
    all_goals first
      | (obtain ⟨z1, z2, z3, z4, z5⟩ := put_two1 (B := w.heap.size) (x := lo) (y := hi) H4.out.R H4.out.S (by omega) (by omega) (by omega)
         refine ret_ad2 (g1 := w.heap.size) (g2 := w.heap.size + 1) (x := lo) (y := hi) rfl rfl rfl rfl z1 z2 ?_
         exact ⟨lo, hi, rfl, HRA.out, z4 W k H4.out.cod hbase hk, z5 w k rfl H4.out.gr⟩)
      | (obtain ⟨z1, z2, z3, z4, z5⟩ := put_two2 (B := w.heap.size) (x := lo) (y := hi) H4.out.R H4.out.S (by omega) (by omega) (by omega)
         refine ret_ad2 (g1 := w.heap.size) (g2 := w.heap.size + 1) (x := lo) (y := hi) rfl rfl rfl rfl z1 z2 ?_
         exact ⟨lo, hi, rfl, HRA.out, z4 W k H4.out.cod hbase hk, z5 w k rfl H4.out.gr⟩)
      | fail
  · go_upto_region 8 with (first
      | (go_at_call 86; (with_reducible refine (HAD.out _ H1.out.cod).mono ?_); rintro e w2 ⟨a, rfl, hda, hc, hg⟩; have HDA := hidden hda; have H2 := hidden (H1.out.grown hk hc hg); clear hda hc hg H1)
      | (go_at_call 86; (with_reducible refine (HAD.out _ H2.out.cod).mono ?_); rintro e w3 ⟨b, rfl, hdb, hc, hg⟩; have HDB := hidden hdb; have H3 := hidden (((H2.out.grown hk hc hg).alloc (.cells #[.int .i64 a.f, .int .u64 a.h, .int .u64 a.l] 111)).alloc (.cells #[.int .i64 b.f, .int .u64 b.h, .int .u64 b.l] 111)); have hs3 := (H2.out.grown hk hc hg).S.lt; clear hdb hc hg H2)
      | fail)
    obtain ⟨p0, p1, p2, pf⟩ := H3.out.R
    obtain ⟨s0, s1, s2, sf⟩ := H3.out.S
    have hsw : (b.h < a.h ∧ True) ∨ (¬ b.h < a.h ∧ (a.h == b.h) = true ∧ b.l < a.l) ∨ (¬ b.h < a.h ∧ (a.h == b.h) = true ∧ ¬ b.l < a.l) ∨ (¬ b.h < a.h ∧ (a.h == b.h) = false) := by simp; omega
    rcases hsw with ⟨q1, -⟩ | ⟨q1, q2, q3⟩ | ⟨q1, q2, q3⟩ | ⟨q1, q2⟩
    · have HRA := hidden (RangeA.mk HDB.out HDA.out (key_fam HDB.out HDA.out (by omega)))
      go_upto_region 9 with fail
      go_region
      all_goals go_wp2_with fail
      all_goals first
        | (obtain ⟨z1, z2, z3, z4, z5⟩ := put_two1 (B := w.heap.size) (x := b) (y := a) H3.out.R H3.out.S (by omega) (by omega) (by omega)
           refine ret_ad2 (g1 := w.heap.size) (g2 := w.heap.size + 1) (x := b) (y := a) rfl rfl rfl rfl z1 z2 ?_
           exact ⟨b, a, rfl, HRA.out, z4 W k H3.out.cod hbase hk, z5 w k rfl H3.out.gr⟩)
        | (obtain ⟨z1, z2, z3, z4, z5⟩ := put_two2 (B := w.heap.size) (x := b) (y := a) H3.out.R H3.out.S (by omega) (by omega) (by omega)
           refine ret_ad2 (g1 := w.heap.size) (g2 := w.heap.size + 1) (x := b) (y := a) rfl rfl rfl rfl z1 z2 ?_
           exact ⟨b, a, rfl, HRA.out, z4 W k H3.out.cod hbase hk, z5 w k rfl H3.out.gr⟩)
        | fail
    · have HRA := hidden (RangeA.mk HDB.out HDA.out (key_fam HDB.out HDA.out (by simp at q2; omega)))
      go_upto_region 9 with fail
      go_region
      all_goals go_wp2_with fail
      all_goals first
        | (obtain ⟨z1, z2, z3, z4, z5⟩ := put_two1 (B := w.heap.size) (x := b) (y := a) H3.out.R H3.out.S (by omega) (by omega) (by omega)
           refine ret_ad2 (g1 := w.heap.size) (g2 := w.heap.size + 1) (x := b) (y := a) rfl rfl rfl rfl z1 z2 ?_
           exact ⟨b, a, rfl, HRA.out, z4 W k H3.out.cod hbase hk, z5 w k rfl H3.out.gr⟩)
        | (obtain ⟨z1, z2, z3, z4, z5⟩ := put_two2 (B := w.heap.size) (x := b) (y := a) H3.out.R H3.out.S (by omega) (by omega) (by omega)
           refine ret_ad2 (g1 := w.heap.size) (g2 := w.heap.size + 1) (x := b) (y := a) rfl rfl rfl rfl z1 z2 ?_
           exact ⟨b, a, rfl, HRA.out, z4 W k H3.out.cod hbase hk, z5 w k rfl H3.out.gr⟩)
        | fail
    · have HRA := hidden (RangeA.mk HDA.out HDB.out (key_fam HDA.out HDB.out (by simp at q2; omega)))
      go_upto_region 10 with fail
      go_region
      all_goals go_wp2_with fail
      all_goals first
        | (obtain ⟨z1, z2, z3, z4, z5⟩ := put_two1 (B := w.heap.size) (x := a) (y := b) H3.out.R H3.out.S (by omega) (by omega) (by omega)
           refine ret_ad2 (g1 := w.heap.size) (g2 := w.heap.size + 1) (x := a) (y := b) rfl rfl rfl rfl z1 z2 ?_
           exact ⟨a, b, rfl, HRA.out, z4 W k H3.out.cod hbase hk, z5 w k rfl H3.out.gr⟩)
        | (obtain ⟨z1, z2, z3, z4, z5⟩ := put_two2 (B := w.heap.size) (x := a) (y := b) H3.out.R H3.out.S (by omega) (by omega) (by omega)
           refine ret_ad2 (g1 := w.heap.size) (g2 := w.heap.size + 1) (x := a) (y := b) rfl rfl rfl rfl z1 z2 ?_
           exact ⟨a, b, rfl, HRA.out, z4 W k H3.out.cod hbase hk, z5 w k rfl H3.out.gr⟩)
        | fail
    · have HRA := hidden (RangeA.mk HDA.out HDB.out (key_fam HDA.out HDB.out (by simp at q2; omega)))
      go_upto_region 10 with fail
      go_region
      all_goals go_wp2_with fail
      all_goals first
        | (obtain ⟨z1, z2, z3, z4, z5⟩ := put_two1 (B := w.heap.size) (x := a) (y := b) H3.out.R H3.out.S (by omega) (by omega) (by omega)
           refine ret_ad2 (g1 := w.heap.size) (g2 := w.heap.size + 1) (x := a) (y := b) rfl rfl rfl rfl z1 z2 ?_
           exact ⟨a, b, rfl, HRA.out, z4 W k H3.out.cod hbase hk, z5 w k rfl H3.out.gr⟩)
        | (obtain ⟨z1, z2, z3, z4, z5⟩ := put_two2 (B := w.heap.size) (x := a) (y := b) H3.out.R H3.out.S (by omega) (by omega) (by omega)
           refine ret_ad2 (g1 := w.heap.size) (g2 := w.heap.size + 1) (x := a) (y := b) rfl rfl rfl rfl z1 z2 ?_
           exact ⟨a, b, rfl, HRA.out, z4 W k H3.out.cod hbase hk, z5 w k rfl H3.out.gr⟩)
        | fail
end Go.Proofs.YtnbkffehhahckaaGreat

namespace Go.Proofs.YtnbkffehhahckaaGreat
open Go.RowKit
set_option linter.unusedVariables false
structure DrawS (f : Int) (s : Sl) : Prop where
  good : GoodS s
  fam : s.lo.f = f
structure DSl (W w wx : World) (k g : Nat) (s : Sl) : Prop where
  cod : Cod W wx k
  gr : w.grownBy wx (some k)
  ge : w.heap.size < g
  R : SlIn wx w.heap.size zeroS
  S : SlIn wx g s
section
variable {W w wx wy : World} {k g : Nat} {s : Sl}
theorem DSl.grown (h : DSl W w wx k g s) (hk : k < w.heap.size) (hc : Cod W wy k) (hg : wx.grownBy wy (some k)) : DSl W w wy k g s :=
  ⟨hc, grown_trans h.gr hg, h.ge, h.R.grown hg (by simp; omega), h.S.grown hg (by have := h.ge; simp; omega)⟩
theorem DSl.alloc (h : DSl W w wx k g s) (o : Obj) : DSl W w (wx.alloc o) k g s := ⟨h.cod.alloc o, grown_alloc_new h.gr o, h.ge, h.R.alloc o, h.S.alloc o⟩
theorem DSl.setA (h : DSl W w wx k g s) (hb : W.heap.size ≤ w.heap.size) (hk : k < w.heap.size) (z : Int) : DSl W w (wx.setCell ⟨g, 1, none⟩ (.int .i64 z)) k g { s with a := z } := by
  have := h.ge
  exact ⟨h.cod.set _ _ _ (by omega) (by omega), grown_set_new h.gr _ _ _ (by omega), h.ge, h.R.set_ne _ _ _ (by omega), h.S.setA z⟩
theorem DSl.setB (h : DSl W w wx k g s) (hb : W.heap.size ≤ w.heap.size) (hk : k < w.heap.size) (z : Int) : DSl W w (wx.setCell ⟨g, 2, none⟩ (.int .i64 z)) k g { s with b := z } := by
  have := h.ge
  exact ⟨h.cod.set _ _ _ (by omega) (by omega), grown_set_new h.gr _ _ _ (by omega), h.ge, h.R.set_ne _ _ _ (by omega), h.S.setB z⟩
theorem DSl.setLo (h : DSl W w wx k g s) (hb : W.heap.size ≤ w.heap.size) (hk : k < w.heap.size) (z : Ad) : DSl W w (((wx.setCell ⟨g, 3, none⟩ (.int .i64 z.f)).setCell ⟨g, 4, none⟩ (.int .u64 z.h)).setCell ⟨g, 5, none⟩ (.int .u64 z.l)) k g { s with lo := z } := by
  have := h.ge
  exact ⟨((h.cod.set _ _ _ (by omega) (by omega)).set _ _ _ (by omega) (by omega)).set _ _ _ (by omega) (by omega), grown_set_new (grown_set_new (grown_set_new h.gr _ _ _ (by omega)) _ _ _ (by omega)) _ _ _ (by omega), h.ge, ((h.R.set_ne _ _ _ (by omega)).set_ne _ _ _ (by omega)).set_ne _ _ _ (by omega), h.S.setLo z⟩
theorem DSl.setHi (h : DSl W w wx k g s) (hb : W.heap.size ≤ w.heap.size) (hk : k < w.heap.size) (z : Ad) : DSl W w (((wx.setCell ⟨g, 6, none⟩ (.int .i64 z.f)).setCell ⟨g, 7, none⟩ (.int .u64 z.h)).setCell ⟨g, 8, none⟩ (.int .u64 z.l)) k g { s with hi := z } := by
  have := h.ge
  exact ⟨((h.cod.set _ _ _ (by omega) (by omega)).set _ _ _ (by omega) (by omega)).set _ _ _ (by omega) (by omega), grown_set_new (grown_set_new (grown_set_new h.gr _ _ _ (by omega)) _ _ _ (by omega)) _ _ _ (by omega), h.ge, ((h.R.set_ne _ _ _ (by omega)).set_ne _ _ _ (by omega)).set_ne _ _ _ (by omega), h.S.setHi z⟩
theorem DSl.ret (h : DSl W w wx k g s) (hb : W.heap.size ≤ w.heap.size) (hk : k < w.heap.size) : SlIn (((((((((wx.setCell ⟨w.heap.size, 0, none⟩ (.int .i64 s.p)).setCell ⟨w.heap.size, 1, none⟩ (.int .i64 s.a)).setCell ⟨w.heap.size, 2, none⟩ (.int .i64 s.b)).setCell ⟨w.heap.size, 3, none⟩ (.int .i64 s.lo.f)).setCell ⟨w.heap.size, 4, none⟩ (.int .u64 s.lo.h)).setCell ⟨w.heap.size, 5, none⟩ (.int .u64 s.lo.l)).setCell ⟨w.heap.size, 6, none⟩ (.int .i64 s.hi.f)).setCell ⟨w.heap.size, 7, none⟩ (.int .u64 s.hi.h)).setCell ⟨w.heap.size, 8, none⟩ (.int .u64 s.hi.l)) w.heap.size s ∧ Cod W (((((((((wx.setCell ⟨w.heap.size, 0, none⟩ (.int .i64 s.p)).setCell ⟨w.heap.size, 1, none⟩ (.int .i64 s.a)).setCell ⟨w.heap.size, 2, none⟩ (.int .i64 s.b)).setCell ⟨w.heap.size, 3, none⟩ (.int .i64 s.lo.f)).setCell ⟨w.heap.size, 4, none⟩ (.int .u64 s.lo.h)).setCell ⟨w.heap.size, 5, none⟩ (.int .u64 s.lo.l)).setCell ⟨w.heap.size, 6, none⟩ (.int .i64 s.hi.f)).setCell ⟨w.heap.size, 7, none⟩ (.int .u64 s.hi.h)).setCell ⟨w.heap.size, 8, none⟩ (.int .u64 s.hi.l)) k ∧ w.grownBy (((((((((wx.setCell ⟨w.heap.size, 0, none⟩ (.int .i64 s.p)).setCell ⟨w.heap.size, 1, none⟩ (.int .i64 s.a)).setCell ⟨w.heap.size, 2, none⟩ (.int .i64 s.b)).setCell ⟨w.heap.size, 3, none⟩ (.int .i64 s.lo.f)).setCell ⟨w.heap.size, 4, none⟩ (.int .u64 s.lo.h)).setCell ⟨w.heap.size, 5, none⟩ (.int .u64 s.lo.l)).setCell ⟨w.heap.size, 6, none⟩ (.int .i64 s.hi.f)).setCell ⟨w.heap.size, 7, none⟩ (.int .u64 s.hi.h)).setCell ⟨w.heap.size, 8, none⟩ (.int .u64 s.hi.l)) (some k) :=
  ⟨h.R.setAll s, (((((((((h.cod.set _ _ _ (by omega) (by omega)).set _ _ _ (by omega) (by omega)).set _ _ _ (by omega) (by omega)).set _ _ _ (by omega) (by omega)).set _ _ _ (by omega) (by omega)).set _ _ _ (by omega) (by omega)).set _ _ _ (by omega) (by omega)).set _ _ _ (by omega) (by omega)).set _ _ _ (by omega) (by omega)), (grown_set_new (grown_set_new (grown_set_new (grown_set_new (grown_set_new (grown_set_new (grown_set_new (grown_set_new (grown_set_new h.gr _ _ _ (by omega)) _ _ _ (by omega)) _ _ _ (by omega)) _ _ _ (by omega)) _ _ _ (by omega)) _ _ _ (by omega)) _ _ _ (by omega)) _ _ _ (by omega)) _ _ _ (by omega))⟩
end
theorem pr5 (j : Nat) (hj : j < 5) : ∃ t : Int, (#[Value.int .i64 0, .int .i64 0, .int .i64 6, .int .i64 17, .int .i64 1] : Array Value)[j]? = some (.int .i64 t) ∧ ([Value.int .i64 0, .int .i64 0, .int .i64 6, .int .i64 17, .int .i64 1] : List Value)[j]? = some (.int .i64 t) ∧ 0 ≤ t ∧ t ≤ 255 := by
  have : j = 0 ∨ j = 1 ∨ j = 2 ∨ j = 3 ∨ j = 4 := by omega
  rcases this with rfl | rfl | rfl | rfl | rfl
  all_goals exact ⟨_, rfl, rfl, by omega, by omega⟩
theorem po5 (j : Nat) (hj : j < 5) : ∃ t : Int, (#[Value.int .i64 0, .int .i64 80, .int .i64 443, .int .i64 65530, .int .i64 1] : Array Value)[j]? = some (.int .i64 t) ∧ ([Value.int .i64 0, .int .i64 80, .int .i64 443, .int .i64 65530, .int .i64 1] : List Value)[j]? = some (.int .i64 t) ∧ 0 ≤ t ∧ t ≤ 65530 := by
  have : j = 0 ∨ j = 1 ∨ j = 2 ∨ j = 3 ∨ j = 4 := by omega
  rcases this with rfl | rfl | rfl | rfl | rfl
  all_goals exact ⟨_, rfl, rfl, by omega, by omega⟩
theorem RangeA.sel {f : Int} {lo hi : Ad} (h : RangeA f lo hi) (p a b : Int) (hp : 0 ≤ p ∧ p ≤ 255) (hq : (a = 65535 ∧ b = 0) ∨ (0 ≤ a ∧ a ≤ b ∧ b ≤ 65535)) : DrawS f ⟨p, a, b, lo, hi⟩ :=
  ⟨⟨h.dlo.fit, h.dhi.fit, h.dlo.ok, h.dhi.ok, h.dlo.fam.trans h.dhi.fam.symm, h.le, hp, hq⟩, h.dlo.fam⟩
def MadeS (W w : World) (k : Nat) (f : Int) (e : Ending) (w' : World) : Prop := ∃ s : Sl, e = .returned (.agg #[.int .i64 s.p, .int .i64 s.a, .int .i64 s.b, .int .i64 s.lo.f, .int .u64 s.lo.h, .int .u64 s.lo.l, .int .i64 s.hi.f, .int .u64 s.hi.h, .int .u64 s.hi.l]) ∧ DrawS f s ∧ Cod W w' k ∧ w.grownBy w' (some k)
set_option maxHeartbeats 3200000 in
set_option maxRecDepth 100000 in
theorem sel_any (W w : World) (k : Nat) (h : Cod W w k) (f : Int) (hf : f = 4 ∨ f = 6) :
    Calls Tryz.prog 44 #[.pointer (some ⟨k, 0, none⟩), .int .i64 f] w (MadeS W w k f) := by
  have hk := h.lt
  have hbase := h.bel.size
  have HC0 := hidden ((h.alloc (.cells #[.int .i64 0, .int .i64 0, .int .i64 0, .int .i64 0, .int .u64 0, .int .u64 0, .int .i64 0, .int .u64 0, .int .u64 0] 113)).alloc (.cells ([Value.int .i64 0, .int .i64 0, .int .i64 6, .int .i64 17, .int .i64 1] : List Value).toArray 3))
  have HR0 := hidden ((SlIn.new w zeroS 113).alloc (.cells ([Value.int .i64 0, .int .i64 0, .int .i64 6, .int .i64 17, .int .i64 1] : List Value).toArray 3))
  have HSP := hidden (fun w' (hc : Cod W w' k) => span_any W w' k hc f hf)
  clear h
  go_enter Tryz.func44, Tryz.ntmps44
  go_upto_region 4 with (first
    | (go_at_call_of 13 (Value.int IntKind.i64 5); (with_reducible refine (next_any W _ k HC0.out _ ?_).mono ?_); omega; rintro e w1 ⟨j, rfl, j0, j1, hc, hg⟩; obtain ⟨j, rfl⟩ := Int.eq_ofNat_of_zero_le j0; obtain ⟨p, hta, htl, p0, p1⟩ := pr5 j (by omega); have hcI : w1.cell? ⟨w.heap.size + 1, j, none⟩ = some (.int .i64 p) := (by have := row_cell _ w1 k _ _ j _ htl (by simp; omega) hg; simpa using this); have H1 := hidden (show DSl W w (w1.alloc (.cells #[.int .i64 p, .int .i64 0, .int .i64 65535, .int .i64 0, .int .u64 0, .int .u64 0, .int .i64 0, .int .u64 0, .int .u64 0] 113)) k w1.heap.size ⟨p, 0, 65535, zeroA, zeroA⟩ from ⟨hc.alloc _, grown_alloc_new (grown_trans (grown_alloc_new (World.grownBy_alloc w _ _) _) hg) _, by have := hg.size; simp at this; omega, (HR0.out.grown hg (by simp; omega)).alloc _, SlIn.new w1 ⟨p, 0, 65535, zeroA, zeroA⟩ _⟩); clear hc hg HC0 HR0)
    | (go_at_call 60; (with_reducible refine (HSP.out _ H1.out.cod).mono ?_); rintro e w2 ⟨lo, hi, rfl, hra, hc, hg⟩; have HRA := hidden hra; have H2 := hidden (H1.out.grown hk hc hg); obtain ⟨s0, s1, s2, s3, s4, s5, s6, s7, s8, sf⟩ := H2.out.S; have H3 := hidden ((H2.out.setLo hbase hk lo).setHi hbase hk hi); clear hra hc hg H1 H2)
    | (go_at_call_of 13 (Value.int IntKind.i64 5); (with_reducible refine (next_any W _ k H3.out.cod _ ?_).mono ?_); omega; rintro e w3 ⟨r, rfl, r0, r1, hc, hg⟩; have H4 := hidden (H3.out.grown hk hc hg); clear hc hg H3)
    | fail)
  generalize w1.heap.size = g at *
  have hg0 := H4.out.ge
  have hr : r = 0 ∨ (r = 1 ∨ r = 2) ∨ ((r == 0) = false ∧ (r == 1) = false ∧ (r == 2) = false) := by simp; omega
  rcases hr with rfl | hr | ⟨k1, k2, k3⟩
  · obtain ⟨s0, s1, s2, s3, s4, s5, s6, s7, s8, sf⟩ := H4.out.S
    obtain ⟨q0, q1, q2, q3, q4, q5, q6, q7, q8, qf⟩ := H4.out.R
    have H5 := hidden ((H4.out.setA hbase hk 65535).setB hbase hk 0)
    have n1 : ¬ w.heap.size = g := by omega
    have n2 : ¬ g = w.heap.size := by omega
    go_wp2
    obtain ⟨z1, z2, z3⟩ := H5.out.ret hbase hk
    refine ret_sl (g := w.heap.size) (s := ⟨p, 65535, 0, lo, hi⟩) rfl rfl rfl z1 ?_
    exact ⟨_, rfl, HRA.out.sel p 65535 0 ⟨p0, p1⟩ (Or.inl ⟨rfl, rfl⟩), z2, z3⟩
  · rcases hr with rfl | rfl
    all_goals
      have HC5 := hidden (H4.out.cod.alloc (.cells ([Value.int .i64 0, .int .i64 80, .int .i64 443, .int .i64 65530, .int .i64 1] : List Value).toArray 3))
      go_wp2_with (first
        | (go_at_call_of 13 (Value.int IntKind.i64 5); (with_reducible refine (next_any W _ k HC5.out _ ?_).mono ?_); omega; rintro e w4 ⟨j, rfl, j0, j1, hc, hg⟩; obtain ⟨j, rfl⟩ := Int.eq_ofNat_of_zero_le j0; obtain ⟨t, hta, htl, t0, t1⟩ := po5 j (by omega); have hcI := row_cell _ w4 k _ _ j _ htl H4.out.cod.lt hg; have H5 := hidden ((H4.out.alloc _).grown hk hc hg); clear hc hg HC5)
        | (go_at_call_of 13 (Value.int IntKind.i64 6); (with_reducible refine (next_any W _ k H5.out.cod _ ?_).mono ?_); omega; rintro e w5 ⟨v, rfl, v0, v1, hc, hg⟩; have H6 := hidden (H5.out.grown hk hc hg); obtain ⟨s0, s1, s2, s3, s4, s5, s6, s7, s8, sf⟩ := H6.out.S; obtain ⟨q0, q1, q2, q3, q4, q5, q6, q7, q8, qf⟩ := H6.out.R; have n1 : ¬ w.heap.size = g := (by omega); have n2 : ¬ g = w.heap.size := (by omega); clear hc hg H5 hcI)
        | fail)
      all_goals first
        | (have hq : t + v < 65535 := by omega
           obtain ⟨z1, z2, z3⟩ := ((H6.out.setA hbase hk t).setB hbase hk (t + v)).ret hbase hk
           refine ret_sl (g := w.heap.size) (s := ⟨p, t, t + v, lo, hi⟩) rfl rfl rfl z1 ?_
           exact ⟨_, rfl, HRA.out.sel p t (t + v) ⟨p0, p1⟩ (Or.inr ⟨by omega, by omega, by omega⟩), z2, z3⟩)
        | (have hq : 65535 ≤ t + v := by omega
           obtain ⟨z1, z2, z3⟩ := ((H6.out.setA hbase hk t).setB hbase hk (65535)).ret hbase hk
           refine ret_sl (g := w.heap.size) (s := ⟨p, t, 65535, lo, hi⟩) rfl rfl rfl z1 ?_
           exact ⟨_, rfl, HRA.out.sel p t (65535) ⟨p0, p1⟩ (Or.inr ⟨by omega, by omega, by omega⟩), z2, z3⟩)
        | fail
  · obtain ⟨s0, s1, s2, s3, s4, s5, s6, s7, s8, sf⟩ := H4.out.S
    obtain ⟨q0, q1, q2, q3, q4, q5, q6, q7, q8, qf⟩ := H4.out.R
    have n1 : ¬ w.heap.size = g := by omega
    have n2 : ¬ g = w.heap.size := by omega
    go_wp2
    obtain ⟨z1, z2, z3⟩ := H4.out.ret hbase hk
    refine ret_sl (g := w.heap.size) (s := ⟨p, 0, 65535, lo, hi⟩) rfl rfl rfl z1 ?_
    exact ⟨_, rfl, HRA.out.sel p 0 65535 ⟨p0, p1⟩ (Or.inr ⟨by omega, by omega, by omega⟩), z2, z3⟩
end Go.Proofs.YtnbkffehhahckaaGreat

namespace Go.Proofs.YtnbkffehhahckaaGreat
open Go.RowKit
set_option linter.unusedVariables false
def OwnR (w : World) (m : Nat) (ys : List Int) (e : Ending) (w' : World) : Prop := ∃ q d, e = .returned (.slice q m d) ∧ Own w' w.heap.size 5 (.slice q m d) ys ∧ Byt w' q m d ys ∧ Below w.heap.size w w'
theorem put_r (p : Option Addr) (n c : Nat) (xs : List Int) (w : World) (h : Byt w p n c xs) (hb : n ≤ 140737488355000) (v : Int) (hv : 0 ≤ v ∧ v ≤ 18446744073709551615) (k : Nat) (h1 : 1 ≤ k) (h8 : k ≤ 8) (K : Int) (hK : K = k) (ys : List Int) (hys : xs ++ be k v = ys) (m : Nat) (hm : n + k = m) :
    Calls Tryz.prog 34 #[.slice p n c, .int .u64 v, .int .i64 K] w (OwnR w m ys) := by
  subst hK hys hm
  have hl : (xs ++ be k v).length = n + k := by rw [List.length_append, be_len, h.len]
  refine (put_yes p n c xs w h hb v hv k h1 h8).mono ?_
  rintro e w' ⟨u, rfl, hown, hbel⟩
  obtain ⟨q, d, rfl, hby⟩ := hown.bytN rfl hl (rng_append h.rng (be_rng _ _))
  exact ⟨q, d, rfl, hown, hby, hbel⟩
def secE (more : Int) (ys : List Int) : List Int := [more, 0] ++ (be 2 (4 + (ys.length : Int)) ++ ys)
def inT (x : Tr) : List Int := [x.t % 256, 0] ++ (be 2 x.i ++ (if x.k ≠ 0 then be 2 32782 ++ be 2 x.k else []))
def inP (p : Pr) : List Int := [p.n % 256, p.p % 256, (p.s.length : Int) % 256, (p.ts.length : Int) % 256] ++ (p.s ++ encTs p.ts)
theorem encT_sec (more : Int) (x : Tr) : encT more x = secE more (inT x) := by
  unfold encT secE inT lenT
  split <;> simp [be_len]
theorem encP_sec (more : Int) (p : Pr) : encP more p = secE more (inP p) := by
  unfold encP secE inP
  have e : 8 + (p.s.length : Int) + ((encTs p.ts).length : Int) = 4 + (([p.n % 256, p.p % 256, (p.s.length : Int) % 256, (p.ts.length : Int) % 256] ++ (p.s ++ encTs p.ts)).length : Int) := by
    simp
    omega
  rw [e]
theorem secE_len (more : Int) (ys : List Int) : (secE more ys).length = 4 + ys.length := by
  simp [secE, be_len]
  omega
theorem secE_rng (more : Int) (ys : List Int) (h0 : 0 ≤ more ∧ more ≤ 255) (h : ∀ x ∈ ys, 0 ≤ x ∧ x ≤ 255) : ∀ x ∈ secE more ys, 0 ≤ x ∧ x ≤ 255 := by
  refine rng_append ?_ (rng_append (be_rng _ _) h)
  intro z hz
  simp at hz
  omega
set_option maxHeartbeats 800000 in
theorem section_w (more : Int) (hm0 : 0 ≤ more ∧ more ≤ 255) (p : Option Addr) (n c : Nat) (ys : List Int) (w : World) (h : Byt w p n c ys) (hn : n ≤ 1048576) :
    Calls Tryz.prog 88 #[.int .i64 more, .slice p n c] w (OwnR w (n + 4) (secE more ys)) := by
  obtain ⟨i0, hi0, hz0, hz1, hz2⟩ := info_parts Tryz.infoByte
  have HX := hidden h
  have HL := hidden h.len
  have hw0 : IntKind.u64.wrap more = more := wraps_u64 _ (by omega) (by omega)
  have hw4 : IntKind.u64.wrap (4 + (n : Int)) = 4 + (n : Int) := wraps_u64 _ (by omega) (by omega)
  clear h
  go_enter Tryz.func88, Tryz.ntmps88
  go_wp2_with fail
  go_at_call 34
  (with_reducible refine (put_r none 0 0 [] w (Byt.nil _ _ _ (Nat.zero_le _)) (by omega) more (by omega) 1 (by omega) (by omega) 1 rfl [more] (by simp [be]; omega) 1 rfl).mono ?_)
  rintro e w1 ⟨q1, d1, rfl, ho1, hy1, hb1⟩
  have HY1 := hidden hy1
  have HB1 := hidden hb1
  clear ho1 hy1 hb1
  go_wp2_with fail
  go_at_call 34
  (with_reducible refine (put_r q1 1 d1 [more] w1 HY1.out (by omega) 0 (by omega) 1 (by omega) (by omega) 1 rfl [more, 0] (by simp [be]) 2 rfl).mono ?_)
  rintro e w2 ⟨q2, d2, rfl, ho2, hy2, hb2⟩
  have HY2 := hidden hy2
  have HB2 := hidden (HB1.out.trans (hb2.mono HB1.out.size))
  clear ho2 hy2 hb2 HY1 HB1
  go_wp2_with fail
  go_at_call 34
  (with_reducible refine (put_r q2 2 d2 [more, 0] w2 HY2.out (by omega) (4 + (n : Int)) (by omega) 2 (by omega) (by omega) 2 rfl ([more, 0] ++ be 2 (4 + (n : Int))) rfl 4 rfl).mono ?_)
  rintro e w3 ⟨q3, d3, rfl, ho3, hy3, hb3⟩
  have HB3 := hidden (HB2.out.trans (hb3.mono HB2.out.size))
  have HO3 := hidden (ho3.mono HB2.out.size)
  have HX3 := hidden (HX.out.below HB3.out)
  have hs3 := HB3.out.size
  clear ho3 hy3 hb3 HY2 HB2 hw0 hw4
  go_wp2_with (at_builtin; go_loud (refine wpList_append_byt _ rfl _ _ 22 rfl w.heap.size 5 i0 (.int .u8 0) Tryz.underlying22 hi0 hz0 hz1 hz2 rfl _ _ rfl HO3.out _ _ _ _ _ rfl HX3.out rfl ?c1 hs3 ?_))
  case c1 => simp [be_len]; omega
  intro v4 w4 ho4 hg4
  replace ho4 : Own w4 w.heap.size 5 v4 (secE more ys) := by
    rw [secE, HL.out]
    simpa using ho4
  obtain ⟨q4, d4, rfl, hy4⟩ := ho4.bytN rfl (show (secE more ys).length = n + 4 by rw [secE_len, HL.out]; omega) (secE_rng more ys hm0 HX.out.rng)
  have HB4 := HB3.out.grown hg4 HB3.out.size (fun g hg => (HO3.out.lt g hg).1)
  have HO4 := hidden ho4
  clear hg4
  go_wp2
  go_ret
  exact ⟨q4, d4, rfl, HO4.out, hy4, HB4⟩
set_option maxHeartbeats 800000 in
theorem transform_w (x : Tr) (w : World) (h : OkT x) (N : Nat) (hN : N = if x.k ≠ 0 then 8 else 4) :
    Calls Tryz.prog 108 #[.agg #[.int .i64 x.t, .int .i64 x.i, .int .i64 x.k]] w (OwnR w N (inT x)) := by
  obtain ⟨t, i, k⟩ := x
  have ht := h.t
  have hi := h.i
  have hk := h.k
  simp only at *
  have HN := hidden hN
  clear h hN
  have hw1 : IntKind.u64.wrap t = t := wraps_u64 _ (by omega) (by omega)
  have hw2 : IntKind.u64.wrap i = i := wraps_u64 _ (by omega) (by omega)
  have hw3 : IntKind.u64.wrap k = k := wraps_u64 _ (by omega) (by omega)
  have hal : Below w.heap.size w (w.alloc (.cells #[.int .i64 t, .int .i64 i, .int .i64 k] 109)) := (Below.refl _ _).alloc (Nat.le_refl _) _
  obtain ⟨W0, hW0⟩ : ∃ W0, w.alloc (.cells #[.int .i64 t, .int .i64 i, .int .i64 k] 109) = W0 := ⟨_, rfl⟩
  have c0 : W0.cell? ⟨w.heap.size, 0, none⟩ = some (.int .i64 t) := by subst hW0; exact World.cell?_alloc_at _ _ _ _ rfl
  have c1 : W0.cell? ⟨w.heap.size, 1, none⟩ = some (.int .i64 i) := by subst hW0; exact World.cell?_alloc_at _ _ _ _ rfl
  have c2 : W0.cell? ⟨w.heap.size, 2, none⟩ = some (.int .i64 k) := by subst hW0; exact World.cell?_alloc_at _ _ _ _ rfl
  rw [hW0] at hal
  have HAL := hidden hal
  have C1 := hidden c1
  have C2 := hidden c2
  go_enter Tryz.func108, Tryz.ntmps108
  go_wp2_with fail
  go_at_call 34
  clear hW0 hal c0 c1 c2
  (with_reducible refine (put_r none 0 0 [] W0 (Byt.nil _ _ _ (Nat.zero_le _)) (by omega) t (by omega) 1 (by omega) (by omega) 1 rfl [t % 256] (by simp [be]) 1 rfl).mono ?_)
  rintro e w1 ⟨q1, d1, rfl, ho1, hy1, hb1⟩
  have HY1 := hidden hy1
  have HB1 := hidden hb1
  clear ho1 hy1 hb1
  go_wp2_with fail
  go_at_call 34
  (with_reducible refine (put_r q1 1 d1 [t % 256] w1 HY1.out (by omega) 0 (by omega) 1 (by omega) (by omega) 1 rfl [t % 256, 0] (by simp [be]) 2 rfl).mono ?_)
  rintro e w2 ⟨q2, d2, rfl, ho2, hy2, hb2⟩
  have HY2 := hidden hy2
  have HB2 := hidden (HB1.out.trans (hb2.mono HB1.out.size))
  have c1 := cell_below HB2.out _ _ C1.out
  clear ho2 hy2 hb2 HY1 HB1
  go_wp2_with fail
  go_at_call 34
  (with_reducible refine (put_r q2 2 d2 [t % 256, 0] w2 HY2.out (by omega) i (by omega) 2 (by omega) (by omega) 2 rfl ([t % 256, 0] ++ be 2 i) rfl 4 rfl).mono ?_)
  rintro e w3 ⟨q3, d3, rfl, ho3, hy3, hb3⟩
  have HB3 := hidden (HB2.out.trans (hb3.mono HB2.out.size))
  have HB3w := hidden (HAL.out.trans (HB3.out.mono HAL.out.size))
  have c2 := cell_below HB3.out _ _ C2.out
  have HY3 := hidden hy3
  have HO3 := hidden (ho3.mono (Nat.le_trans HAL.out.size HB2.out.size))
  clear ho3 hy3 hb3 HY2 HB2 c1
  by_cases hk0 : k = 0
  · subst hk0
    have hN := HN.out
    rw [if_neg (by simp)] at hN
    subst hN
    go_wp2
    go_ret
    refine ⟨q3, d3, rfl, ?_, ?_, HB3w.out⟩
    · have := HO3.out
      simpa [inT] using this
    · have := HY3.out
      simpa [inT] using this
  · have hN := HN.out
    rw [if_pos hk0] at hN
    subst hN
    have hk' : (k == 0) = false := by simpa using hk0
    have HK := hidden hk0
    go_wp2_with fail
    go_at_call 34
    (with_reducible refine (put_r q3 4 d3 ([t % 256, 0] ++ be 2 i) w3 HY3.out (by omega) 32782 (by omega) 2 (by omega) (by omega) 2 rfl ([t % 256, 0] ++ be 2 i ++ be 2 32782) rfl 6 rfl).mono ?_)
    rintro e w4 ⟨q4, d4, rfl, ho4, hy4, hb4⟩
    have HB4 := hidden (HB3.out.trans (hb4.mono HB3.out.size))
    have HY4 := hidden hy4
    have c3 := cell_below HB4.out _ _ C2.out
    clear ho4 hy4 hb4 HY3 HO3 c2
    go_wp2_with fail
    go_at_call 34
    (with_reducible refine (put_r q4 6 d4 ([t % 256, 0] ++ be 2 i ++ be 2 32782) w4 HY4.out (by omega) k (by omega) 2 (by omega) (by omega) 2 rfl ([t % 256, 0] ++ be 2 i ++ be 2 32782 ++ be 2 k) rfl 8 rfl).mono ?_)
    rintro e w5 ⟨q5, d5, rfl, ho5, hy5, hb5⟩
    have HB5 := hidden (HAL.out.trans ((HB4.out.trans (hb5.mono HB4.out.size)).mono HAL.out.size))
    have HO5 := hidden (ho5.mono (Nat.le_trans HAL.out.size HB4.out.size))
    have HY5 := hidden hy5
    clear ho5 hy5 hb5 c3
    go_wp2
    go_ret
    have e : inT ⟨t, i, k⟩ = [t % 256, 0] ++ be 2 i ++ be 2 32782 ++ be 2 k := by
      rw [inT, if_pos HK.out]
      simp
    rw [e]
    exact ⟨q5, d5, rfl, HO5.out, HY5.out, HB5.out⟩
end Go.Proofs.YtnbkffehhahckaaGreat

namespace Go.Proofs.YtnbkffehhahckaaGreat
open Go.RowKit
set_option linter.unusedVariables false
structure TrIn (w : World) (g : Nat) (t i k : Int) : Prop where
  c0 : w.cell? ⟨g, 0, none⟩ = some (.int .i64 t)
  c1 : w.cell? ⟨g, 1, none⟩ = some (.int .i64 i)
  c2 : w.cell? ⟨g, 2, none⟩ = some (.int .i64 k)
  fr : ∀ j, w.frozen? ⟨g, j, none⟩ = false
section
variable {w w' : World} {g : Nat} {t i k : Int}
theorem TrIn.lt (h : TrIn w g t i k) : g < w.heap.size := World.block_lt_of_cell? w _ h.c0
theorem TrIn.grown {row : Option Nat} (h : TrIn w g t i k) (hg : w.grownBy w' row) (hne : some g ≠ row) : TrIn w' g t i k :=
  ⟨hg.cell h.c0 hne, hg.cell h.c1 hne, hg.cell h.c2 hne, fun j => (World.frozen?_of_block (a := ⟨g, j, none⟩) (hg.block g h.lt hne)).trans (h.fr j)⟩
theorem TrIn.below (h : TrIn w g t i k) (hb : Below w.heap.size w w') : TrIn w' g t i k := h.grown (row := none) (grown_of_below hb none) (by simp)
theorem TrIn.set0 (h : TrIn w g t i k) (v : Int) : TrIn (w.setCell ⟨g, 0, none⟩ (.int .i64 v)) g v i k := by
  obtain ⟨c0, c1, c2, fr⟩ := h
  exact ⟨by go_simp, by go_simp, by go_simp, fun j => by rw [World.frozen?_setCell]; exact fr j⟩
theorem TrIn.set1 (h : TrIn w g t i k) (v : Int) : TrIn (w.setCell ⟨g, 1, none⟩ (.int .i64 v)) g t v k := by
  obtain ⟨c0, c1, c2, fr⟩ := h
  exact ⟨by go_simp, by go_simp, by go_simp, fun j => by rw [World.frozen?_setCell]; exact fr j⟩
theorem TrIn.set2 (h : TrIn w g t i k) (v : Int) : TrIn (w.setCell ⟨g, 2, none⟩ (.int .i64 v)) g t i v := by
  obtain ⟨c0, c1, c2, fr⟩ := h
  exact ⟨by go_simp, by go_simp, by go_simp, fun j => by rw [World.frozen?_setCell]; exact fr j⟩
theorem TrIn.new (w : World) (t i k : Int) (T : TypeId) : TrIn (w.alloc (.cells #[.int .i64 t, .int .i64 i, .int .i64 k] T)) w.heap.size t i k :=
  ⟨by go_simp, by go_simp, by go_simp, fun j => by go_simp⟩
end
theorem load_tr {w : World} {g : Nat} {t i k : Int} (h : TrIn w g t i k) : (loadVar 109 ⟨g, 0, none⟩).run Tryz.prog w = .ok (.agg #[.int .i64 t, .int .i64 i, .int .i64 k]) w := by
  obtain ⟨c0, c1, c2, fr⟩ := h
  simp [loadVar, go_sem, c0, c1, c2, Result.andThen]
theorem ret_tr {fn : Func} {R : Ending → World → Prop} {a : Act} {w : World} {p : Nat} {g : Nat} {t i k : Int} (h : fn.results = #[.cell p 109]) (hp : a.tmps.getD p undef = .pointer (some ⟨g, 0, none⟩)) (hd : a.defers = [])
    (hh : TrIn w g t i k) (hR : R (.returned (.agg #[.int .i64 t, .int .i64 i, .int .i64 k])) w) : bodyPost Tryz.prog fn R .ret a w := by
  refine bodyPost_ret (v := .agg #[.int .i64 t, .int .i64 i, .int .i64 k]) ?_ hd hR
  rw [Array.getD_eq_getD_getElem?] at hp
  simp [results, h, hp, asAddr, load_tr hh]
def trV (zs : List Int) : Option Tr :=
  if zs.length < 4 then none else if zs.length = 4 then some ⟨zs.getD 0 0, w2 zs 2, 0⟩
  else if zs.length ≠ 8 ∨ w2 zs 4 ≠ 32782 ∨ w2 zs 6 = 0 then none else some ⟨zs.getD 0 0, w2 zs 2, w2 zs 6⟩
def GotTr (w : World) (k : Nat) (r : Option Tr) (e : Ending) (w' : World) : Prop :=
  w.grownBy w' (some k) ∧ match r with
  | none => Thrown e
  | some x => e = .returned (.agg #[.int .i64 x.t, .int .i64 x.i, .int .i64 x.k]) ∧ IntT x
theorem gottr_none {w : World} {k : Nat} {r : Option Tr} {e : Ending} {w' : World} (hg : w.grownBy w' (some k)) (hr : r = none) (ht : Thrown e) : GotTr w k r e w' := by
  subst hr
  exact ⟨hg, ht⟩
theorem intT_of {a b c : Int} (h1 : 0 ≤ a ∧ a ≤ 65535) (h2 : 0 ≤ b ∧ b ≤ 65535) (h3 : 0 ≤ c ∧ c ≤ 65535) : IntT ⟨a, b, c⟩ := by
  refine ⟨⟨?_, ?_⟩, ⟨?_, ?_⟩, ?_, ?_⟩ <;> simp only <;> omega
theorem gottr_some {w : World} {k : Nat} {r : Option Tr} {t i kk : Int} {w' : World} (hg : w.grownBy w' (some k)) (hr : r = some ⟨t, i, kk⟩) (h : IntT ⟨t, i, kk⟩) : GotTr w k r (.returned (.agg #[.int .i64 t, .int .i64 i, .int .i64 kk])) w' := by
  subst hr
  exact ⟨hg, rfl, h⟩
structure TS (w w1 : World) (k : Nat) (p : Option Addr) (n c : Nat) (xs : List Int) (a : Nat) (t i kk : Int) : Prop where
  ps : PS w1 k p n c xs a
  gr : w.grownBy w1 (some k)
  lk : k < w.heap.size
  rt : TrIn w1 w.heap.size 0 0 0
  ru : TrIn w1 (w.heap.size + 1) t i kk
section
variable {w w1 w2 : World} {k : Nat} {p : Option Addr} {n c : Nat} {xs : List Int} {a b : Nat} {t i kk : Int}
theorem TS.step (h : TS w w1 k p n c xs a t i kk) (hg : w1.grownBy w2 (some k)) (hp : PS w2 k p n c xs b) : TS w w2 k p n c xs b t i kk :=
  ⟨hp, grown_trans h.gr hg, h.lk, h.rt.grown hg (by have := h.lk; simp; omega), h.ru.grown hg (by have := h.lk; simp; omega)⟩
theorem TS.below (h : TS w w1 k p n c xs a t i kk) (hb : Below w1.heap.size w1 w2) : TS w w2 k p n c xs a t i kk := h.step (grown_of_below hb _) (h.ps.below hb)
theorem TS.set (h : TS w w1 k p n c xs a t i kk) (j : Nat) (v : Int) {t' i' k' : Int} (hu : TrIn (w1.setCell ⟨w.heap.size + 1, j, none⟩ (.int .i64 v)) (w.heap.size + 1) t' i' k') : TS w (w1.setCell ⟨w.heap.size + 1, j, none⟩ (.int .i64 v)) k p n c xs a t' i' k' :=
  ⟨h.ps.off (grown_set _ _ _ _) (fun r hr => by cases hr; have := h.lk; omega), grown_set_new h.gr _ _ _ (by omega), h.lk, h.rt.grown (grown_set _ _ _ _) (by simp), hu⟩
end
set_option maxHeartbeats 1600000 in
set_option maxRecDepth 100000 in
theorem transform_any (p : Option Addr) (n c : Nat) (xs : List Int) (w : World) (k : Nat) (h : PS w k p n c xs 0) (r : Option Tr) (hr : trV xs = r) :
    Calls Tryz.prog 136 #[.pointer (some ⟨k, 0, none⟩)] w (GotTr w k r) := by
  have hlen := h.here.len
  have hrng := h.here.rng
  have hnle := h.here.le
  unfold trV at hr
  rw [hlen] at hr
  obtain ⟨x0, hx0⟩ : ∃ x0, xs.getD 0 0 = x0 := ⟨_, rfl⟩
  obtain ⟨x1, hx1⟩ : ∃ x0, xs.getD 1 0 = x0 := ⟨_, rfl⟩
  obtain ⟨y2, hy2⟩ : ∃ x0, w2 xs 2 = x0 := ⟨_, rfl⟩
  obtain ⟨y4, hy4⟩ : ∃ x0, w2 xs 4 = x0 := ⟨_, rfl⟩
  obtain ⟨y6, hy6⟩ : ∃ x0, w2 xs 6 = x0 := ⟨_, rfl⟩
  have b0 := rng_getD hrng 0
  have b2 := w2_bdP xs hrng 2
  have b6 := w2_bdP xs hrng 6
  rw [hx0] at b0
  rw [hy2] at b2
  rw [hy6] at b6
  rw [hx0, hy2, hy4, hy6] at hr
  have HR := hidden hr
  have HX0 := hidden hx0
  have HX1 := hidden hx1
  have HY2 := hidden hy2
  have HY4 := hidden hy4
  have HY6 := hidden hy6
  have h0 : Below w.heap.size w ((w.alloc (.cells #[.int .i64 0, .int .i64 0, .int .i64 0] 109)).alloc (.cells #[.int .i64 0, .int .i64 0, .int .i64 0] 109)) := ((Below.refl _ w).alloc (Nat.le_refl _) _).alloc (by simp) _
  have HS0 : Hid (TS w ((w.alloc (.cells #[.int .i64 0, .int .i64 0, .int .i64 0] 109)).alloc (.cells #[.int .i64 0, .int .i64 0, .int .i64 0] 109)) k p n c xs 0 0 0 0) := hidden ⟨h.below h0, grown_of_below h0 (some k), h.lt, (TrIn.new w 0 0 0 109).below ((Below.refl _ _).alloc (Nat.le_refl _) _), by
    have := TrIn.new (w.alloc (.cells #[.int .i64 0, .int .i64 0, .int .i64 0] 109)) 0 0 0 109
    simpa using this⟩
  clear hr h hx0 hx1 hy2 hy4 hy6 hrng hlen h0
  go_enter Tryz.func136, Tryz.ntmps136
  go_wp2_with fail
  go_at_call 132
  (with_reducible refine (pn1 p n c xs _ k 0 HS0.out.ps x0 HX0.out).mono ?_)
  rintro e w1 ⟨hg1, ⟨hi1, rfl, hps1⟩ | ⟨hi1, ht⟩⟩
  rotate_left
  · subst ht
    exact ⟨rfl, gottr_none (grown_trans HS0.out.gr hg1) (by rw [← HR.out, if_pos (by omega)]) rfl⟩
  have HS1 := hidden (HS0.out.step hg1 hps1)
  clear HS0 hg1 hps1
  have HS2 := hidden (HS1.out.set 0 x0 (HS1.out.ru.set0 x0))
  have u1 := HS1.out.ru.c0
  have fr1 := HS1.out.ru.fr
  go_wp2_with fail
  clear u1 fr1
  go_at_call 132
  (with_reducible refine (pn1 p n c xs _ k 1 HS2.out.ps x1 HX1.out).mono ?_)
  rintro e w2 ⟨hg1, ⟨hi2, rfl, hps1⟩ | ⟨hi2, ht⟩⟩
  rotate_left
  · subst ht
    exact ⟨rfl, gottr_none (grown_trans HS2.out.gr hg1) (by rw [← HR.out, if_pos (by omega)]) rfl⟩
  have HS3 := hidden (HS2.out.step hg1 hps1)
  clear HS1 HS2 hg1 hps1
  go_wp2_with fail
  go_at_call 132
  (with_reducible refine (pn2 p n c xs _ k 2 HS3.out.ps y2 HY2.out).mono ?_)
  rintro e w3 ⟨hg1, ⟨hi3, rfl, hps1⟩ | ⟨hi3, ht⟩⟩
  rotate_left
  · subst ht
    exact ⟨rfl, gottr_none (grown_trans HS3.out.gr hg1) (by rw [← HR.out, if_pos (by omega)]) rfl⟩
  have HS4 := hidden (HS3.out.step hg1 hps1)
  clear HS3 hg1 hps1
  have HS5 := hidden (HS4.out.set 1 y2 (HS4.out.ru.set1 y2))
  have u1 := HS4.out.ru.c1
  have fr1 := HS4.out.ru.fr
  go_wp2_with fail
  clear u1 fr1
  have hr := HR.out
  rw [if_neg (by omega)] at hr
  have HR2 := hidden hr
  clear hr HR HS4
  obtain ⟨b, hb⟩ : ∃ b, b = decide (4 < n) := ⟨_, rfl⟩
  go_at_call 126
  (with_reducible refine (pl p n c xs _ k 4 HS5.out.ps b hb).mono ?_)
  rintro e w6 ⟨rfl, hb6, -⟩
  have HS6 := hidden (HS5.out.below hb6)
  clear hb6 HS5
  have HB := hidden hb
  clear hb
  by_cases h4 : n = 4
  · obtain rfl : b = false := by rw [HB.out]; simp; omega
    have hr := HR2.out
    rw [if_pos h4] at hr
    have HR3 := hidden hr
    clear hr HR2
    go_wp2_with fail
    go_at_call 126
    (with_reducible refine (pl p n c xs _ k 4 HS6.out.ps false HB.out).mono ?_)
    rintro e w7 ⟨rfl, hb7, -⟩
    have HS7 := hidden (HS6.out.below hb7)
    clear HS6 hb7
    have c0 := HS7.out.ru.c0
    have c1 := HS7.out.ru.c1
    have c2 := HS7.out.ru.c2
    have d0 := HS7.out.rt.c0
    have d1 := HS7.out.rt.c1
    have d2 := HS7.out.rt.c2
    have fr := HS7.out.rt.fr
    go_wp2_with (go_at_call 134; (with_reducible refine (need_yes _).mono ?_); rintro e w8 ⟨rfl, rfl⟩)
    refine ret_tr rfl rfl rfl (((HS7.out.rt.set0 x0).set1 y2).set2 0) (gottr_some ?_ HR3.out.symm (intT_of (by omega) b2 (by omega)))
    exact grown_set_new (grown_set_new (grown_set_new HS7.out.gr _ _ _ (Nat.le_refl _)) _ _ _ (Nat.le_refl _)) _ _ _ (Nat.le_refl _)
  · obtain rfl : b = true := by rw [HB.out]; simp; omega
    have hr := HR2.out
    rw [if_neg h4] at hr
    have HR3 := hidden hr
    clear hr HR2
    go_wp2_with fail
    go_at_call 132
    (with_reducible refine (pn2 p n c xs _ k 4 HS6.out.ps y4 HY4.out).mono ?_)
    rintro e w7 ⟨hg1, ⟨hi4, rfl, hps1⟩ | ⟨hi4, ht⟩⟩
    rotate_left
    · subst ht
      exact ⟨rfl, gottr_none (grown_trans HS6.out.gr hg1) (by rw [← HR3.out, if_pos (by omega)]) rfl⟩
    have HS7 := hidden (HS6.out.step hg1 hps1)
    clear HS6 hg1 hps1
    go_wp2_with fail
    go_at_call 134
    (refine (need_any _ _).mono ?_)
    rintro e w8 ⟨rfl, ⟨ht, rfl⟩ | ⟨ht, hth⟩⟩
    rotate_left
    · subst hth
      exact ⟨rfl, gottr_none HS7.out.gr (by rw [← HR3.out, if_pos (by simp at ht; omega)]) rfl⟩
    replace ht : y4 = 32782 := by simpa using ht
    have HE4 := hidden ht
    clear ht
    go_wp2_with fail
    go_at_call 132
    (with_reducible refine (pn2 p n c xs _ k 6 HS7.out.ps y6 HY6.out).mono ?_)
    rintro e w8 ⟨hg1, ⟨hi5, rfl, hps1⟩ | ⟨hi5, ht⟩⟩
    rotate_left
    · subst ht
      exact ⟨rfl, gottr_none (grown_trans HS7.out.gr hg1) (by rw [← HR3.out, if_pos (by omega)]) rfl⟩
    have HS8 := hidden (HS7.out.step hg1 hps1)
    clear HS7 hg1 hps1
    have HS9 := hidden (HS8.out.set 2 y6 (HS8.out.ru.set2 y6))
    have u1 := HS8.out.ru.c2
    have fr1 := HS8.out.ru.fr
    go_wp2_with fail
    clear u1 fr1
    go_at_call 134
    (refine (need_any _ _).mono ?_)
    rintro e w9 ⟨rfl, ⟨ht, rfl⟩ | ⟨ht, hth⟩⟩
    rotate_left
    · subst hth
      exact ⟨rfl, gottr_none HS9.out.gr (by rw [← HR3.out, if_pos (by simp at ht; omega)]) rfl⟩
    replace ht : y6 ≠ 0 := by simpa using ht
    have HE6 := hidden ht
    clear ht
    obtain ⟨b, hb⟩ : ∃ b, b = decide (8 < n) := ⟨_, rfl⟩
    have HB2 := hidden hb
    clear hb HS8
    go_wp2_with fail
    go_at_call 126
    (with_reducible refine (pl p n c xs _ k 8 HS9.out.ps b HB2.out).mono ?_)
    rintro e wA ⟨rfl, hb7, -⟩
    have HSA := hidden (HS9.out.below hb7)
    clear HS9 hb7
    go_wp2_with fail
    go_at_call 134
    (refine (need_any _ _).mono ?_)
    rintro e wB ⟨rfl, ⟨ht, rfl⟩ | ⟨ht, hth⟩⟩
    rotate_left
    · subst hth
      exact ⟨rfl, gottr_none HSA.out.gr (by rw [← HR3.out, if_pos (by have := HB2.out; simp at ht this; rw [ht] at this; simp at this; omega)]) rfl⟩
    have h8 : n = 8 := by have := HB2.out; simp at ht this; rw [ht] at this; simp at this; omega
    have H8 := hidden h8
    clear ht h8
    have c0 := HSA.out.ru.c0
    have c1 := HSA.out.ru.c1
    have c2 := HSA.out.ru.c2
    have d0 := HSA.out.rt.c0
    have d1 := HSA.out.rt.c1
    have d2 := HSA.out.rt.c2
    have fr := HSA.out.rt.fr
    have hr := HR3.out
    rw [if_neg (by have := H8.out; have := HE4.out; have := HE6.out; omega)] at hr
    have HR4 := hidden hr
    clear hr HR3
    go_wp2
    refine ret_tr rfl rfl rfl (((HSA.out.rt.set0 x0).set1 y2).set2 y6) (gottr_some ?_ HR4.out.symm (intT_of (by omega) b2 b6))
    exact grown_set_new (grown_set_new (grown_set_new HSA.out.gr _ _ _ (Nat.le_refl _)) _ _ _ (Nat.le_refl _)) _ _ _ (Nat.le_refl _)
end Go.Proofs.YtnbkffehhahckaaGreat

namespace Go.Proofs.YtnbkffehhahckaaGreat
open Go.RowKit
set_option linter.unusedVariables false
theorem secV_cases (more : Int) (ys : List Int) :
    (ys.length < 4 ∧ secV more ys = none) ∨ (4 ≤ ys.length ∧ (w2 ys 2 < 4 ∨ (ys.length : Int) < w2 ys 2) ∧ secV more ys = none)
    ∨ (4 ≤ ys.length ∧ ¬ (w2 ys 2 < 4 ∨ (ys.length : Int) < w2 ys 2) ∧ ys.getD 0 0 ≠ (if (ys.length : Int) = w2 ys 2 then 0 else more) ∧ secV more ys = none)
    ∨ (4 ≤ ys.length ∧ ¬ (w2 ys 2 < 4 ∨ (ys.length : Int) < w2 ys 2) ∧ ys.getD 0 0 = (if (ys.length : Int) = w2 ys 2 then 0 else more) ∧ secV more ys = some ((ys.take (w2 ys 2).toNat).drop 4, (w2 ys 2).toNat)) := by
  unfold secV
  by_cases h1 : ys.length < 4
  · exact Or.inl ⟨h1, if_pos h1⟩
  by_cases h2 : w2 ys 2 < 4 ∨ (ys.length : Int) < w2 ys 2
  · exact Or.inr (Or.inl ⟨by omega, h2, by rw [if_neg h1, if_pos h2]⟩)
  by_cases h3 : ys.getD 0 0 ≠ (if (ys.length : Int) = w2 ys 2 then 0 else more)
  · exact Or.inr (Or.inr (Or.inl ⟨by omega, h2, h3, by rw [if_neg h1, if_neg h2, if_pos h3]⟩))
  · exact Or.inr (Or.inr (Or.inr ⟨by omega, h2, Decidable.not_not.1 h3, by rw [if_neg h1, if_neg h2, if_neg h3]⟩))
structure InS (more : Int) (ys zs : List Int) (L : Nat) : Prop where
  l : w2 ys 2 = L
  len : zs.length + 4 = L
  le : L ≤ ys.length
  x0 : ys.getD 0 0 = (if (ys.length : Int) = L then 0 else more)
  zs : zs = (ys.take L).drop 4
theorem secV_in {more : Int} {ys zs : List Int} {L : Nat} (h : secV more ys = some (zs, L)) : InS more ys zs L := by
  rcases secV_cases more ys with ⟨_, h1⟩ | ⟨_, _, h1⟩ | ⟨_, _, _, h1⟩ | ⟨h2, h3, h4, h1⟩
  · rw [h1] at h; cases h
  · rw [h1] at h; cases h
  · rw [h1] at h; cases h
  rw [h1] at h
  simp only [Option.some.injEq, Prod.mk.injEq] at h
  obtain ⟨h5, h6⟩ := h
  have h7 : w2 ys 2 = L := by omega
  have h8 : zs.length + 4 = L := by rw [← h5, List.length_drop, List.length_take]; omega
  rw [h7] at h4
  exact ⟨h7, h8, by omega, h4, by rw [← h5, h6]⟩
theorem secV_len {more : Int} {ys zs : List Int} {L : Nat} (h : secV more ys = some (zs, L)) : zs.length + 4 = L ∧ L ≤ ys.length := ⟨(secV_in h).len, (secV_in h).le⟩
theorem getD_inside (ys : List Int) (L a : Nat) (h : 4 + a < L) : ((ys.take L).drop 4).getD a 0 = ys.getD (4 + a) 0 := by
  rw [getD_dropP, List.getD_eq_getElem?_getD, List.getD_eq_getElem?_getD, List.getElem?_take_of_lt h]
theorem w2_inside (ys : List Int) (L a : Nat) (h : 4 + a + 1 < L) : w2 ((ys.take L).drop 4) a = w2 ys (4 + a) := by
  rw [w2, getD_inside _ _ _ (by omega), getD_inside _ _ _ (by omega), w2, Nat.add_assoc]
theorem trV_attr (zs : List Int) (h : 4 ≤ zs.length) : trV zs = if (attrV (zs.drop 4)).2 = false then none else some ⟨zs.getD 0 0, w2 zs 2, (attrV (zs.drop 4)).1⟩ := by
  have h3 : ¬ zs.length < 4 := by omega
  have hl : (zs.drop 4).length = zs.length - 4 := by simp
  by_cases h4 : zs.length = 4
  · have ha : attrV (zs.drop 4) = (0, true) := by rw [attrV, if_pos (by omega)]
    rw [ha, trV, if_neg h3, if_pos h4]
    rfl
  have h5 : ¬ (zs.drop 4).length = 0 := by omega
  by_cases h8 : zs.length ≠ 8 ∨ w2 zs 4 ≠ 32782 ∨ w2 zs 6 = 0
  · have ha : attrV (zs.drop 4) = (0, false) := by rw [attrV, if_neg h5, if_pos]; rw [w2_dropP, w2_dropP, hl]; simp only [Nat.add_zero, Nat.reduceAdd]; omega
    rw [ha, trV, if_neg h3, if_neg h4, if_pos h8]
    rfl
  · have ha : attrV (zs.drop 4) = (w2 zs 6, true) := by rw [attrV, if_neg h5, if_neg, w2_dropP]; rw [w2_dropP, w2_dropP, hl]; simp only [Nat.add_zero, Nat.reduceAdd]; omega
    rw [ha, trV, if_neg h3, if_neg h4, if_neg h8]
    rfl
theorem trs_sec (ys : List Int) (h : ys.length ≠ 0) : trsV ys = match secV 3 ys with
  | none => none
  | some x => match trV x.1 with
    | none => none
    | some t => (trsV (ys.drop x.2)).map (t :: ·) := by
  rw [trsV_step ys h]
  rcases hs : secV 3 ys with _ | ⟨zs, L⟩
  · simp only
    by_cases h8 : ys.length < 8
    · rw [if_pos h8]
    rw [if_neg h8]
    by_cases h9 : w2 ys 2 < 8 ∨ (ys.length : Int) < w2 ys 2
    · rw [if_pos h9]
    rw [if_neg h9]
    rcases secV_cases 3 ys with ⟨h2, h1⟩ | ⟨_, h2, h1⟩ | ⟨_, _, h2, h1⟩ | ⟨h2, h3, h4, h1⟩
    · omega
    · omega
    · rw [if_pos (Or.inl h2)]
    · rw [h1] at hs; cases hs
  · have hi := secV_in hs
    have h1 := hi.len
    have h2 := hi.le
    simp only
    by_cases hz : zs.length < 4
    · have ht : trV zs = none := by unfold trV; rw [if_pos hz]
      rw [ht]
      simp only
      by_cases h8 : ys.length < 8
      · rw [if_pos h8]
      · rw [if_neg h8, hi.l, if_pos (by omega)]
    · have e0 : ¬ (ys.getD 0 0 ≠ if (ys.length : Int) = L then 0 else 3) := Decidable.not_not.2 hi.x0
      have e1 : (ys.drop 8).take (L - 8) = zs.drop 4 := by
        rw [hi.zs, List.drop_drop, List.drop_take]
      have e2 : zs.getD 0 0 = ys.getD 4 0 := by rw [hi.zs, getD_inside _ _ _ (by omega)]
      have e3 : w2 zs 2 = w2 ys 6 := by rw [hi.zs, w2_inside _ _ _ (by omega)]
      rw [if_neg (by omega), hi.l, if_neg (by omega), Int.toNat_natCast, trV_attr zs (by omega), e1, e2, e3]
      by_cases ha : (attrV (zs.drop 4)).2 = false
      · rw [if_pos (Or.inr ha), if_pos ha]
      · rw [if_neg (fun h => h.elim e0 ha), if_neg ha]
def GotTs (w : World) (k : Nat) (r : Option (List Tr)) (e : Ending) (w' : World) : Prop :=
  w.grownBy w' (some k) ∧ match r with
  | none => Thrown e
  | some l => ∃ v, e = .returned v ∧ RowG KTr NTr w' w.heap.size v l
theorem gotts_none {w : World} {k : Nat} {r : Option (List Tr)} {e : Ending} {w' : World} (hg : w.grownBy w' (some k)) (hr : r = none) (ht : Thrown e) : GotTs w k r e w' := by
  subst hr
  exact ⟨hg, ht⟩
theorem grown_own4 {a b c : World} {row row' : Option Nat} (h : a.grownBy b row) (k : b.grownBy c row') (hR : ∀ r, row' = some r → a.heap.size ≤ r) : a.grownBy c row :=
  ⟨k.os.trans h.os, k.tape.trans h.tape, k.output.trans h.output, Nat.le_trans h.size k.size, fun i hi hne => (k.block i (Nat.lt_of_lt_of_le hi h.size) (fun e => by have := hR i e.symm; omega)).trans (h.block i hi hne)⟩
theorem map_none_app {α : Type} (l : List α) (o : Option (List α)) (r : Option (List α)) (h : o.map (l ++ ·) = r) (ho : o = none) : r = none := by
  subst ho
  exact h.symm
set_option maxHeartbeats 1600000 in
set_option maxRecDepth 100000 in
theorem ptransforms_any (p : Option Addr) (n c : Nat) (xs : List Int) (w : World) (k a : Nat) (h : PS w k p n c xs a) (hn : n ≤ 1048576) (r : Option (List Tr)) (hr : trsV (xs.drop a) = r) :
    Calls Tryz.prog 135 #[.pointer (some ⟨k, 0, none⟩)] w (GotTs w k r) := by
  have HR := hidden hr
  have HL := hidden h.here.len
  have HRG := hidden h.here.rng
  have HP := hidden h
  have HK := hidden h.lt
  clear hr h
  go_enter Tryz.func135, Tryz.ntmps135
  go_wp2_with fail
  go_loopw [3] (fun o wr => ∃ (at_ : Nat) (l : List Tr), at_ ≤ n ∧ l.length ≤ at_ ∧ (trsV (xs.drop at_)).map (l ++ ·) = r ∧ RowG KTr NTr wr w.heap.size o l ∧ PS wr k p n c xs at_ ∧ w.grownBy wr (some k)) (fun _ wr => n - (intOf ((wr.cell? ⟨k, 1, none⟩).getD (.int .i64 0))).toNat)
  case atStart => exact ⟨a, [], HP.out.le, by simp, by rw [HR.out]; simp, RowG.nil _ _ _ _, HP.out, grown_refl _ _⟩
  case round =>
    obtain ⟨at_, l, hat, hl8, hres, hrow, hps, hgr⟩ := hrel
    obtain ⟨po, co, rfl⟩ := hrow.form rfl
    have HRW := hidden hrow
    have HPS := hidden hps
    have HGR := hidden hgr
    have hmeas : (intOf ((wr.cell? ⟨k, 1, none⟩).getD (.int .i64 0))).toNat = at_ := by rw [hps.cu.c1]; simp [intOf]
    have HMS := hidden hmeas
    clear hrow hps hgr hmeas
    obtain ⟨b, hb⟩ : ∃ b, b = decide (at_ < n) := ⟨_, rfl⟩
    have HB := hidden hb
    clear hb
    go_wp2_with fail
    go_at_call 126
    (with_reducible refine (pl p n c xs _ k at_ HPS.out b HB.out).mono ?_)
    rintro e w1 ⟨rfl, hb1, hps1⟩
    by_cases hlt : ¬ at_ < n
    · obtain rfl : b = false := by rw [HB.out]; simpa using hlt
      have hz : (xs.drop at_).length = 0 := by simp [HL.out]; omega
      rw [trsV_nil _ hz] at hres
      simp at hres
      subst hres
      have HB1 := hidden hb1
      clear HR hb1
      go_wp2_with fail
      go_ret
      exact ⟨grown_trans HGR.out (grown_of_below HB1.out _), _, rfl, HRW.out.below HB1.out⟩
    · obtain rfl : b = true := by rw [HB.out]; simpa using hlt
      have hnz : (xs.drop at_).length ≠ 0 := by simp [HL.out]; omega
      have hst := trs_sec (xs.drop at_) hnz
      have HST := hidden hst
      have HRES := hidden hres
      have HP1 := hidden hps1
      have HB1 := hidden hb1
      clear hst hres hps1 hb1 hnz
      obtain ⟨sv, hsv⟩ : ∃ sv, secV 3 (xs.drop at_) = sv := ⟨_, rfl⟩
      have HSV := hidden hsv
      clear hsv
      go_wp2_with fail
      go_at_call 127
      (with_reducible refine (section_any 3 p n c xs _ k at_ HP1.out hn sv HSV.out).mono ?_)
      rintro e w2 ⟨hg2, hh⟩
      cases sv with
      | none =>
        subst hh
        refine ⟨rfl, gotts_none (grown_trans (grown_trans HGR.out (grown_of_below HB1.out _)) hg2) (map_none_app _ _ _ HRES.out ?_) rfl⟩
        rw [HST.out, HSV.out]
      | some x =>
        obtain ⟨zs, L⟩ := x
        obtain ⟨R, q, m, d, rfl, hR, hpi, hpo⟩ := hh
        simp only at hpi hpo
        have HG2 := hidden (grown_trans (grown_of_below HB1.out (some k)) hg2)
        have HPO := hidden hpo
        have HPI := hidden hpi
        have hR' : wr.heap.size ≤ R := Nat.le_trans HB1.out.size hR
        clear hg2 hpo hpi hR
        obtain ⟨tv, htv⟩ : ∃ tv, trV zs = tv := ⟨_, rfl⟩
        have HTV := hidden htv
        clear htv
        go_wp2_with fail
        go_at_call 136
        (with_reducible refine (transform_any q m d zs _ R HPI.out tv HTV.out).mono ?_)
        rintro e w3 ⟨hg3, hh⟩
        cases tv with
        | none =>
          subst hh
          refine ⟨rfl, gotts_none (grown_trans HGR.out (grown_new HG2.out hg3 hR')) (map_none_app _ _ _ HRES.out ?_) rfl⟩
          rw [HST.out, HSV.out]
          simp only
          rw [HTV.out]
        | some t =>
          obtain ⟨rfl, hint⟩ := hh
          have hg4 := grown_new HG2.out hg3 hR'
          have HRW4 := hidden (HRW.out.low hg4 HK.out)
          have HPO4 := hidden (HPO.out.off hg3 (fun r hr => by cases hr; have := HPO.out.lt; have := HPS.out.lt; omega))
          have HG4 := hidden (grown_trans HGR.out hg4)
          have HI := hidden hint
          have hlen := secV_len HSV.out
          rw [List.length_drop, HL.out] at hlen
          have hnext : (trsV (xs.drop (at_ + L))).map ((l ++ [t]) ++ ·) = r := by
            rw [← HRES.out, HST.out, HSV.out]
            simp only
            rw [HTV.out]
            simp only [Option.map_map, List.drop_drop]
            congr 1
            funext z
            simp
          have HNX := hidden hnext
          clear hg3 hg4 hint hnext HRES HST HRW HPS HGR HPO HG2 HP1 HB1 HPI
          go_wp2_with (at_builtin; go_loud (refine wpList_append_g knownTr (by simp [NTr]) _ rfl _ _ rfl w.heap.size _ l rfl (HRW4.out.alloc _) _ 1 1 [t] rfl (srcTr w3 t.t t.i t.k _) (fun x hx => by rw [List.mem_singleton.1 hx]; exact HI.out) ?b1 ?b2 ?b3 ?_))
          case b1 => unfold maxLen; omega
          case b2 => omega
          case b3 => have := HG4.out.size; simp; omega
          intro v4 w4 hrow4 hg4
          have hk4 : ∀ r, (Value.slice po l.length co).ownBlock = some r → w.heap.size ≤ r := fun r hr => (HRW4.out.lt r hr).1
          have HRW5 := hidden hrow4
          have HPS5 := hidden ((HPO4.out.below ((Below.refl _ _).alloc (Nat.le_refl _) _)).off hg4 (fun r hr => by have := hk4 r hr; have := HK.out; omega))
          have HG5 := hidden (grown_own4 (grown_alloc_new HG4.out _) hg4 hk4)
          clear hrow4 hg4 HRW4 HPO4 HG4 hk4
          go_wp2_with fail
          go_roundw
          case rel => exact ⟨at_ + L, l ++ [t], by omega, by simp; omega, HNX.out, HRW5.out, HPS5.out, HG5.out⟩
          case measure =>
            rw [HMS.out, HPS5.out.cu.c1]
            simp [intOf]
            omega
end Go.Proofs.YtnbkffehhahckaaGreat

namespace Go.Proofs.YtnbkffehhahckaaGreat
open Go.RowKit
set_option linter.unusedVariables false
structure PrIn (w : World) (g : Nat) (n p : Int) (s t : Value) : Prop where
  c0 : w.cell? ⟨g, 0, none⟩ = some (.int .i64 n)
  c1 : w.cell? ⟨g, 1, none⟩ = some (.int .i64 p)
  c2 : w.cell? ⟨g, 2, none⟩ = some s
  c3 : w.cell? ⟨g, 3, none⟩ = some t
  fr : ∀ j, w.frozen? ⟨g, j, none⟩ = false
section
variable {w w' : World} {g : Nat} {n p : Int} {s t : Value}
theorem PrIn.lt (h : PrIn w g n p s t) : g < w.heap.size := World.block_lt_of_cell? w _ h.c0
theorem PrIn.grown {row : Option Nat} (h : PrIn w g n p s t) (hg : w.grownBy w' row) (hne : some g ≠ row) : PrIn w' g n p s t :=
  ⟨hg.cell h.c0 hne, hg.cell h.c1 hne, hg.cell h.c2 hne, hg.cell h.c3 hne, fun j => (World.frozen?_of_block (a := ⟨g, j, none⟩) (hg.block g h.lt hne)).trans (h.fr j)⟩
theorem PrIn.below (h : PrIn w g n p s t) (hb : Below w.heap.size w w') : PrIn w' g n p s t := h.grown (row := none) (grown_of_below hb none) (by simp)
theorem PrIn.set0 (h : PrIn w g n p s t) (v : Int) : PrIn (w.setCell ⟨g, 0, none⟩ (.int .i64 v)) g v p s t := by
  obtain ⟨c0, c1, c2, c3, fr⟩ := h
  exact ⟨by go_simp, by go_simp, by go_simp, by go_simp, fun j => by rw [World.frozen?_setCell]; exact fr j⟩
theorem PrIn.set1 (h : PrIn w g n p s t) (v : Int) : PrIn (w.setCell ⟨g, 1, none⟩ (.int .i64 v)) g n v s t := by
  obtain ⟨c0, c1, c2, c3, fr⟩ := h
  exact ⟨by go_simp, by go_simp, by go_simp, by go_simp, fun j => by rw [World.frozen?_setCell]; exact fr j⟩
theorem PrIn.set2 (h : PrIn w g n p s t) (q : Option Addr) (m d : Nat) : PrIn (w.setCell ⟨g, 2, none⟩ (.slice q m d)) g n p (.slice q m d) t := by
  obtain ⟨c0, c1, c2, c3, fr⟩ := h
  exact ⟨by go_simp, by go_simp, by go_simp, by go_simp, fun j => by rw [World.frozen?_setCell]; exact fr j⟩
theorem PrIn.set3 (h : PrIn w g n p s t) (q : Option Addr) (m d : Nat) : PrIn (w.setCell ⟨g, 3, none⟩ (.slice q m d)) g n p s (.slice q m d) := by
  obtain ⟨c0, c1, c2, c3, fr⟩ := h
  exact ⟨by go_simp, by go_simp, by go_simp, by go_simp, fun j => by rw [World.frozen?_setCell]; exact fr j⟩
theorem PrIn.new (w : World) (n p : Int) (q : Option Addr) (m d : Nat) (q' : Option Addr) (m' d' : Nat) (T : TypeId) : PrIn (w.alloc (.cells #[.int .i64 n, .int .i64 p, .slice q m d, .slice q' m' d'] T)) w.heap.size n p (.slice q m d) (.slice q' m' d') :=
  ⟨by go_simp, by go_simp, by go_simp, by go_simp, fun j => by go_simp⟩
end
theorem load_pr {w : World} {g : Nat} {n p : Int} {s t : Value} (h : PrIn w g n p s t) : (loadVar 106 ⟨g, 0, none⟩).run Tryz.prog w = .ok (.agg #[.int .i64 n, .int .i64 p, s, t]) w := by
  obtain ⟨c0, c1, c2, c3, fr⟩ := h
  simp [loadVar, go_sem, c0, c1, c2, c3, Result.andThen]
theorem ret_pr {fn : Func} {R : Ending → World → Prop} {a : Act} {w : World} {p : Nat} {g : Nat} {x y : Int} {s t : Value} (h : fn.results = #[.cell p 106]) (hp : a.tmps.getD p undef = .pointer (some ⟨g, 0, none⟩)) (hd : a.defers = [])
    (hh : PrIn w g x y s t) (hR : R (.returned (.agg #[.int .i64 x, .int .i64 y, s, t])) w) : bodyPost Tryz.prog fn R .ret a w := by
  refine bodyPost_ret (v := .agg #[.int .i64 x, .int .i64 y, s, t]) ?_ hd hR
  rw [Array.getD_eq_getD_getElem?] at hp
  simp [results, h, hp, asAddr, load_pr hh]
def prV (zs : List Int) : Option Pr :=
  if zs.length < 4 then none else if (zs.length : Int) < 4 + zs.getD 2 0 then none
  else match trsV (zs.drop (4 + (zs.getD 2 0).toNat)) with
  | none => none
  | some ts => if (ts.length : Int) ≠ zs.getD 3 0 then none else some ⟨zs.getD 0 0, zs.getD 1 0, (zs.drop 4).take (zs.getD 2 0).toNat, ts⟩
theorem prs_sec (ys : List Int) (hr : ∀ x ∈ ys, 0 ≤ x ∧ x ≤ 255) (h : ys.length ≠ 0) : prsV ys = match secV 2 ys with
  | none => none
  | some x => match prV x.1 with
    | none => none
    | some t => (prsV (ys.drop x.2)).map (t :: ·) := by
  rw [prsV_step ys h]
  rcases hs : secV 2 ys with _ | ⟨zs, L⟩
  · simp only
    by_cases h8 : ys.length < 8
    · rw [if_pos h8]
    rw [if_neg h8]
    by_cases h9 : w2 ys 2 < 8 ∨ (ys.length : Int) < w2 ys 2
    · rw [if_pos h9]
    rw [if_neg h9]
    rcases secV_cases 2 ys with ⟨h2, h1⟩ | ⟨_, h2, h1⟩ | ⟨_, _, h2, h1⟩ | ⟨h2, h3, h4, h1⟩
    · omega
    · omega
    · rw [if_pos (Or.inl h2)]
    · rw [h1] at hs; cases hs
  · have hi := secV_in hs
    have h1 := hi.len
    have h2 := hi.le
    simp only
    by_cases hz : zs.length < 4
    · have ht : prV zs = none := by unfold prV; rw [if_pos hz]
      rw [ht]
      simp only
      by_cases h8 : ys.length < 8
      · rw [if_pos h8]
      · rw [if_neg h8, hi.l, if_pos (by omega)]
    · have e0 : ¬ (ys.getD 0 0 ≠ if (ys.length : Int) = L then 0 else 2) := Decidable.not_not.2 hi.x0
      have b6 := rng_getD hr 6
      have e2 : zs.getD 0 0 = ys.getD 4 0 := by rw [hi.zs, getD_inside _ _ _ (by omega)]
      have e3 : zs.getD 1 0 = ys.getD 5 0 := by rw [hi.zs, getD_inside _ _ _ (by omega)]
      have e4 : zs.getD 2 0 = ys.getD 6 0 := by rw [hi.zs, getD_inside _ _ _ (by omega)]
      have e5 : zs.getD 3 0 = ys.getD 7 0 := by rw [hi.zs, getD_inside _ _ _ (by omega)]
      rw [if_neg (by omega), hi.l, if_neg (by omega), Int.toNat_natCast]
      unfold prV
      rw [if_neg hz, e2, e3, e4, e5]
      by_cases hb : (L : Int) < 8 + ys.getD 6 0
      · rw [if_pos (Or.inr hb), if_pos (by omega)]
      · rw [if_neg (fun h => h.elim e0 hb), if_neg (show ¬ (zs.length : Int) < 4 + ys.getD 6 0 by omega)]
        have e6 : (ys.take L).drop (8 + (ys.getD 6 0).toNat) = zs.drop (4 + (ys.getD 6 0).toNat) := by
          rw [hi.zs, List.drop_drop]
          congr 1
          omega
        have e7 : (ys.drop 8).take (ys.getD 6 0).toNat = (zs.drop 4).take (ys.getD 6 0).toNat := by
          rw [hi.zs, List.drop_drop, List.drop_take, List.take_take]
          congr 1
          omega
        rw [e6, e7]
        cases trsV (zs.drop (4 + (ys.getD 6 0).toNat)) with
        | none => rfl
        | some ts =>
          simp only
          split <;> rfl
theorem trs_few : ∀ (ys : List Int) (l : List Tr), trsV ys = some l → l.length ≤ ys.length := by
  suffices ∀ m (ys : List Int) (l : List Tr), ys.length ≤ m → trsV ys = some l → l.length ≤ ys.length from fun ys l h => this _ ys l (Nat.le_refl _) h
  intro m
  induction m with
  | zero =>
    intro ys l h0 h
    rw [trsV_nil _ (by omega)] at h
    simp at h
    subst h
    simp
  | succ m ih =>
    intro ys l h0 h
    by_cases hz : ys.length = 0
    · rw [trsV_nil _ hz] at h
      simp at h
      subst h
      simp
    rw [trs_sec _ hz] at h
    rcases hs : secV 3 ys with _ | ⟨zs, L⟩
    · rw [hs] at h; cases h
    rw [hs] at h
    simp only at h
    rcases ht : trV zs with _ | t
    · rw [ht] at h; cases h
    rw [ht] at h
    simp only at h
    have hl := secV_len hs
    rcases hn : trsV (ys.drop L) with _ | l'
    · rw [hn] at h; cases h
    rw [hn] at h
    simp at h
    subst h
    have := ih _ _ (by rw [List.length_drop]; omega) hn
    rw [List.length_drop] at this
    simp
    omega
def GotPr (w : World) (k : Nat) (r : Option Pr) (e : Ending) (w' : World) : Prop :=
  w.grownBy w' (some k) ∧ match r with
  | none => Thrown e
  | some y => ∃ x : PrP, x.pr = y ∧ e = .returned (.agg #[.int .i64 x.n, .int .i64 x.p, .slice x.sp x.sn x.sc, .slice x.tp x.tn x.tc]) ∧ OkN w' w.heap.size x
theorem gotpr_none {w : World} {k : Nat} {r : Option Pr} {e : Ending} {w' : World} (hg : w.grownBy w' (some k)) (hr : r = none) (ht : Thrown e) : GotPr w k r e w' := by
  subst hr
  exact ⟨hg, ht⟩
structure PrS (w w1 : World) (k : Nat) (p : Option Addr) (n c : Nat) (xs : List Int) (a : Nat) (x y : Int) (s t : Value) : Prop where
  ps : PS w1 k p n c xs a
  gr : w.grownBy w1 (some k)
  lk : k < w.heap.size
  sz : w.heap.size + 2 ≤ w1.heap.size
  rt : PrIn w1 w.heap.size 0 0 (.slice none 0 0) (.slice none 0 0)
  ru : PrIn w1 (w.heap.size + 1) x y s t
section
variable {w w1 w2 : World} {k : Nat} {p : Option Addr} {n c : Nat} {xs : List Int} {a b : Nat} {x y : Int} {s t : Value}
theorem PrS.step (h : PrS w w1 k p n c xs a x y s t) (hg : w1.grownBy w2 (some k)) (hp : PS w2 k p n c xs b) : PrS w w2 k p n c xs b x y s t :=
  ⟨hp, grown_trans h.gr hg, h.lk, Nat.le_trans h.sz hg.size, h.rt.grown hg (by have := h.lk; simp; omega), h.ru.grown hg (by have := h.lk; simp; omega)⟩
theorem PrS.below (h : PrS w w1 k p n c xs a x y s t) (hb : Below w1.heap.size w1 w2) : PrS w w2 k p n c xs a x y s t := h.step (grown_of_below hb _) (h.ps.below hb)
theorem PrS.set (h : PrS w w1 k p n c xs a x y s t) (j : Nat) (v : Value) {x' y' : Int} {s' t' : Value} (hu : PrIn (w1.setCell ⟨w.heap.size + 1, j, none⟩ v) (w.heap.size + 1) x' y' s' t') : PrS w (w1.setCell ⟨w.heap.size + 1, j, none⟩ v) k p n c xs a x' y' s' t' :=
  ⟨h.ps.off (grown_set _ _ _ _) (fun r hr => by cases hr; have := h.lk; omega), grown_set_new h.gr _ _ _ (by omega), h.lk, Nat.le_trans h.sz (grown_set _ _ _ _).size, h.rt.grown (grown_set _ _ _ _) (by simp), hu⟩
end
theorem pn1_ok (p : Option Addr) (n c : Nat) (xs : List Int) (w : World) (k a : Nat) (h : PS w k p n c xs a) (v : Int) (hv : xs.getD a 0 = v) (hin : a + 1 ≤ n) :
    Calls Tryz.prog 132 #[.pointer (some ⟨k, 0, none⟩), .int .i64 1] w fun e w' => e = .returned (.int .i64 v) ∧ w.grownBy w' (some k) ∧ PS w' k p n c xs (a + 1) := by
  refine (pn1 p n c xs w k a h v hv).mono ?_
  rintro e w' ⟨hg, ⟨h1, rfl, hc⟩ | ⟨h1, ht⟩⟩
  · exact ⟨rfl, hg, hc⟩
  · omega
theorem pn1_no (p : Option Addr) (n c : Nat) (xs : List Int) (w : World) (k a : Nat) (h : PS w k p n c xs a) (hin : n < a + 1) :
    Calls Tryz.prog 132 #[.pointer (some ⟨k, 0, none⟩), .int .i64 1] w fun e w' => Thrown e ∧ w.grownBy w' (some k) := by
  refine (pn1 p n c xs w k a h _ rfl).mono ?_
  rintro e w' ⟨hg, ⟨h1, rfl, hc⟩ | ⟨h1, ht⟩⟩
  · omega
  · exact ⟨ht, hg⟩
theorem thrown_in {P : Program} {G : Prop} (w : World) (h : G) (d : wpAny P .any #[] (fun _ _ _ => True) 0 #[] { tmps := #[], defers := [] } w) : G := h
set_option maxHeartbeats 1600000 in
set_option maxRecDepth 100000 in
theorem proposal_any (p : Option Addr) (n c : Nat) (xs : List Int) (w : World) (k : Nat) (h : PS w k p n c xs 0) (hn : n ≤ 1048576) (r : Option Pr) (hr : prV xs = r) :
    Calls Tryz.prog 128 #[.pointer (some ⟨k, 0, none⟩)] w (GotPr w k r) := by
  have hlen := h.here.len
  have hrng := h.here.rng
  have hnle := h.here.le
  unfold prV at hr
  rw [hlen] at hr
  obtain ⟨x0, hx0⟩ : ∃ x0, xs.getD 0 0 = x0 := ⟨_, rfl⟩
  obtain ⟨x1, hx1⟩ : ∃ x0, xs.getD 1 0 = x0 := ⟨_, rfl⟩
  obtain ⟨x2, hx2⟩ : ∃ x0, xs.getD 2 0 = x0 := ⟨_, rfl⟩
  obtain ⟨x3, hx3⟩ : ∃ x0, xs.getD 3 0 = x0 := ⟨_, rfl⟩
  have b0 := rng_getD hrng 0
  have b1 := rng_getD hrng 1
  have b2 := rng_getD hrng 2
  have b3 := rng_getD hrng 3
  rw [hx0] at b0
  rw [hx1] at b1
  rw [hx2] at b2
  rw [hx3] at b3
  rw [hx0, hx1, hx2, hx3] at hr
  have HR := hidden hr
  have HX0 := hidden hx0
  have HX1 := hidden hx1
  have HX2 := hidden hx2
  have HX3 := hidden hx3
  have h0 : Below w.heap.size w ((w.alloc (.cells #[.int .i64 0, .int .i64 0, .slice none 0 0, .slice none 0 0] 106)).alloc (.cells #[.int .i64 0, .int .i64 0, .slice none 0 0, .slice none 0 0] 106)) := ((Below.refl _ w).alloc (Nat.le_refl _) _).alloc (by simp) _
  have HS0 : Hid (PrS w ((w.alloc (.cells #[.int .i64 0, .int .i64 0, .slice none 0 0, .slice none 0 0] 106)).alloc (.cells #[.int .i64 0, .int .i64 0, .slice none 0 0, .slice none 0 0] 106)) k p n c xs 0 0 0 (.slice none 0 0) (.slice none 0 0)) := hidden ⟨h.below h0, grown_of_below h0 (some k), h.lt, by simp, (PrIn.new w 0 0 none 0 0 none 0 0 106).below ((Below.refl _ _).alloc (Nat.le_refl _) _), by
    have := PrIn.new (w.alloc (.cells #[.int .i64 0, .int .i64 0, .slice none 0 0, .slice none 0 0] 106)) 0 0 none 0 0 none 0 0 106
    simpa using this⟩
  clear hr h hx0 hx1 hx2 hx3 hrng hlen h0
  go_enter Tryz.func128, Tryz.ntmps128
  go_wp2_with fail
  go_at_call 132
  (with_reducible refine (pn1 p n c xs _ k 0 HS0.out.ps x0 HX0.out).mono ?_)
  rintro e w1 ⟨hg1, ⟨hi1, rfl, hps1⟩ | ⟨hi1, ht⟩⟩
  rotate_left
  · subst ht
    exact ⟨rfl, gotpr_none (grown_trans HS0.out.gr hg1) (by rw [← HR.out, if_pos (by omega)]) rfl⟩
  have HS1 := hidden (HS0.out.step hg1 hps1)
  clear HS0 hg1 hps1
  have HS2 := hidden (HS1.out.set 0 (.int .i64 x0) (HS1.out.ru.set0 x0))
  have u1 := HS1.out.ru.c0
  have fr1 := HS1.out.ru.fr
  go_wp2_with fail
  clear u1 fr1
  go_at_call 132
  (with_reducible refine (pn1 p n c xs _ k 1 HS2.out.ps x1 HX1.out).mono ?_)
  rintro e w2 ⟨hg1, ⟨hi2, rfl, hps1⟩ | ⟨hi2, ht⟩⟩
  rotate_left
  · subst ht
    exact ⟨rfl, gotpr_none (grown_trans HS2.out.gr hg1) (by rw [← HR.out, if_pos (by omega)]) rfl⟩
  have HS3 := hidden (HS2.out.step hg1 hps1)
  clear HS1 HS2 hg1 hps1
  have HS4 := hidden (HS3.out.set 1 (.int .i64 x1) (HS3.out.ru.set1 x1))
  have u1 := HS3.out.ru.c1
  have fr1 := HS3.out.ru.fr
  go_wp2_with fail
  clear u1 fr1 HS3
  have HSD : Hid (PrS w (w2.setCell ⟨w.heap.size + 1, 1, none⟩ (.int .i64 x1)).drew k p n c xs 2 x0 x1 (.slice none 0 0) (.slice none 0 0)) := hidden (HS4.out.below (drew_below ⟨1, rfl⟩))
  by_cases h3 : n < 3
  · have C1 := hidden (pn1_no p n c xs _ k 2 HSD.out.ps (by omega))
    have hr := HR.out
    rw [if_pos (by omega)] at hr
    have HR2 := hidden hr
    clear hr HR HS4
    go_region_law (first | (go_simp; go_at_call 132; (with_reducible refine (C1.out).mono ?_); rintro e wA ⟨ht, hg⟩; subst ht; refine thrown_in (P := Tryz.prog) w ⟨rfl, gotpr_none (grown_trans HSD.out.gr hg) HR2.out.symm rfl⟩ ?_))
    all_goals trivial
  have C1 := hidden (pn1_ok p n c xs _ k 2 HSD.out.ps x2 HX2.out (by omega))
  by_cases h4 : n < 4
  · have C2 := hidden (fun wA (h : PS wA k p n c xs 3) => pn1_no p n c xs wA k 3 h (by omega))
    have hr := HR.out
    rw [if_pos (by omega)] at hr
    have HR2 := hidden hr
    clear hr HR HS4
    go_region_law (first
      | (go_simp; go_at_call 132; (with_reducible refine (C1.out).mono ?_); rintro e wA ⟨rfl, hg, hps⟩; have hg' := grown_trans HSD.out.gr hg)
      | (go_simp; go_at_call 132; (with_reducible refine (C2.out _ hps).mono ?_); rintro e wB ⟨ht, hg⟩; subst ht; refine thrown_in (P := Tryz.prog) w ⟨rfl, gotpr_none (grown_trans hg' hg) HR2.out.symm rfl⟩ ?_))
    all_goals trivial
  have C2 := hidden (fun wA (h : PS wA k p n c xs 3) => pn1_ok p n c xs wA k 3 h x3 HX3.out (by omega))
  have hr := HR.out
  rw [if_neg h4] at hr
  have HR2 := hidden hr
  clear hr HR HS4
  go_region_law (first
    | (go_simp; go_at_call 132; (with_reducible refine (C1.out).mono ?_); rintro e wA ⟨rfl, hg, hps⟩; have hs5 := HSD.out.step hg hps)
    | (go_simp; go_at_call 132; (with_reducible refine (C2.out _ hps).mono ?_); rintro e wB ⟨rfl, hg, hps⟩; have hs6 := hs5.step hg hps))
  all_goals
    have HS7 := hidden hs6
    clear hs5 hs6 hps hg C1 C2 HSD
    go_wp2_with fail
    go_at_call 133
    (with_reducible refine (pt p n c xs _ k 4 HS7.out.ps (by omega) x2 (by omega)).mono ?_)
    rintro e w5 ⟨hg5, ⟨hi4, hi5, q, m, d, rfl, hby, hps5⟩ | ⟨hi4, ht⟩⟩
    rotate_left
    · subst ht
      exact ⟨rfl, gotpr_none (grown_trans HS7.out.gr hg5) (by rw [← HR2.out, if_pos (by omega)]) rfl⟩
    have hr := HR2.out
    rw [if_neg (by omega)] at hr
    have HR3 := hidden hr
    have HS8 := hidden (HS7.out.step hg5 hps5)
    have hby2 := hby.mono HS7.out.sz
    clear hr HR2 hg5 hps5 hby
    have HS9 := hidden (HS8.out.set 2 (.slice q m d) (HS8.out.ru.set2 q m d))
    have HBY := hidden (hby2.grown (grown_set _ (w.heap.size + 1) 2 (.slice q m d)) (OffB.low (by omega)))
    have u1 := HS8.out.ru.c2
    have fr1 := HS8.out.ru.fr
    clear hby2 HS7
    obtain ⟨tv, htv⟩ : ∃ tv, trsV (xs.drop (4 + x2.toNat)) = tv := ⟨_, rfl⟩
    have HTV := hidden htv
    have hr := HR3.out
    rw [htv] at hr
    have HR4 := hidden hr
    clear htv hr HR3
    go_wp2_with fail
    clear u1 fr1
    go_at_call 135
    (with_reducible refine (ptransforms_any p n c xs _ k (4 + x2.toNat) HS9.out.ps hn tv HTV.out).mono ?_)
    rintro e w6 ⟨hg6, hh⟩
    cases tv with
    | none =>
      subst hh
      exact ⟨rfl, gotpr_none (grown_trans HS9.out.gr hg6) HR4.out.symm rfl⟩
    | some ts =>
      obtain ⟨v, rfl, hrow⟩ := hh
      obtain ⟨tp, tc, rfl⟩ := hrow.form rfl
      have hr := HR4.out
      simp only at hr
      have HR5 := hidden hr
      have hlk := HS9.out.lk
      have HBY2 := hidden (HBY.out.grown hg6 (OffB.low (by omega)))
      have HRW := hidden (hrow.mono HS9.out.sz)
      have hrt := HS9.out.rt.grown hg6 (by simp; omega)
      have hru := HS9.out.ru.grown hg6 (by simp; omega)
      have HG6 := hidden (grown_trans HS9.out.gr hg6)
      have HRT := hidden hrt
      have HRU := hidden hru
      have HSZ := hidden (Nat.le_trans HS9.out.sz hg6.size)
      have c0 := hru.c0
      have c1 := hru.c1
      have c2 := hru.c2
      have c3 := hru.c3
      have fr1 := hru.fr
      have d0 := hrt.c0
      have d1 := hrt.c1
      have d2 := hrt.c2
      have d3 := hrt.c3
      have fr := hrt.fr
      have htl : ts.length ≤ 9223372036854775807 := by
        have := trs_few _ _ HTV.out
        have := HS9.out.ps.here.len
        rw [List.length_drop] at *
        omega
      clear hr HR4 hg6 hrow hrt hru HS9 HBY
      go_wp2_with fail
      go_at_call 134
      (refine (need_any _ _).mono ?_)
      rintro e w8 ⟨rfl, ⟨ht, rfl⟩ | ⟨ht, hth⟩⟩
      rotate_left
      · subst hth
        exact ⟨rfl, gotpr_none (grown_set_new HG6.out _ _ _ (by omega)) (by rw [← HR5.out, if_pos (by simpa using ht)]) rfl⟩
      have hr := HR5.out
      rw [if_neg (by simpa using ht)] at hr
      have HR6 := hidden hr
      clear ht hr HR5
      go_wp2
      refine ret_pr rfl rfl rfl ((((((HRT.out.grown (grown_set _ (w.heap.size + 1) 3 (.slice tp ts.length tc)) (by simp)).set0 x0).set1 x1).set2 q m d).set3 tp ts.length tc)) ?_
      have e1 : (w6.setCell ⟨w.heap.size + 1, 3, none⟩ (.slice tp ts.length tc)).grownBy (((((w6.setCell ⟨w.heap.size + 1, 3, none⟩ (.slice tp ts.length tc)).setCell ⟨w.heap.size, 0, none⟩ (.int .i64 x0)).setCell ⟨w.heap.size, 1, none⟩ (.int .i64 x1)).setCell ⟨w.heap.size, 2, none⟩ (.slice q m d)).setCell ⟨w.heap.size, 3, none⟩ (.slice tp ts.length tc)) (some w.heap.size) :=
        grown_trans (grown_trans (grown_trans (grown_set _ _ _ _) (grown_set _ _ _ _)) (grown_set _ _ _ _)) (grown_set _ _ _ _)
      have e0 := grown_set w6 (w.heap.size + 1) 3 (.slice tp ts.length tc)
      refine ⟨grown_new (grown_set_new HG6.out _ _ _ (by omega)) e1 (Nat.le_refl _), ?_⟩
      rw [← HR6.out]
      refine ⟨⟨x0, x1, q, m, d, (xs.drop 4).take x2.toNat, tp, ts.length, tc, ts⟩, rfl, rfl, ⟨⟨⟨by show -9223372036854775808 ≤ x0; omega, by show x0 ≤ 9223372036854775807; omega⟩, by show -9223372036854775808 ≤ x1; omega, by show x1 ≤ 9223372036854775807; omega⟩, ?_, ?_⟩⟩
      · exact ((HBY2.out.grown e0 (OffB.low (by omega))).grown e1 (OffB.low (by omega))).mono (by omega)
      · exact ((HRW.out.low e0 (by omega)).low e1 (by omega)).mono (by omega)
end Go.Proofs.YtnbkffehhahckaaGreat

namespace Go.Proofs.YtnbkffehhahckaaGreat
open Go.RowKit
open Go.Maps (Keyed IsMap)
set_option linter.unusedVariables false
set_option maxRecDepth 100000
theorem Tryz.laidOutM : laidOutB Tryz.prog = true := by kernel_rfl
theorem Tryz.rowTr : (109 : TypeId) < Tryz.prog.types.size := of_decide_eq_true (by kernel_rfl)
theorem Tryz.wideTr : (match Tryz.prog.underlying 109 with | some (.array _ _) | some (.struct _) => true | _ => false) = true := by rw [Tryz.underlying109]
theorem lawTr : Keyed Tryz.prog 109 := Keyed.of_law (deep_law_laid Tryz.laidOutM (m := 2) (by omega) Tryz.rowTr (by kernel_rfl) Tryz.wideTr)
theorem Tryz.keyTypeTr : Tryz.prog.keyType 109 = true := by kernel_rfl
theorem Tryz.cellsTr : Tryz.prog.cellsOf 109 = 3 := by kernel_rfl
theorem Tryz.cellsInt : Tryz.prog.cellsOf 3 = 1 := by kernel_rfl
def keyVal (t i k : Int) : Value := .agg #[.int .i64 t, .int .i64 i, .int .i64 k]
theorem wf_of {a : Int} (h : -9223372036854775808 ≤ a ∧ a ≤ 9223372036854775807) : (Lit.int .i64 a).wf = true := WalkArith.wf_i64 (by omega)
theorem keyOf_three {P : Program} {k e : TypeId} {fs : Array Go.Field} {f0 f1 f2 : Go.Field} (hk : P.underlying k = some (.struct fs)) (he : P.underlying e = some (.int .i64)) (hkt : P.keyType k = true) (hck : P.cellsOf k = 3) (hce : P.cellsOf e = 1) (hrow : k < P.types.size)
    (hall : fs.all (·.name != "_") = true) (hfs : fs.toList = [f0, f1, f2]) (t0 : f0.type = e) (t1 : f1.type = e) (t2 : f2.type = e) (o0 : f0.offset = 0) (o1 : f1.offset = 1) (o2 : f2.offset = 2)
    {a b c : Int} (ha : (Lit.int .i64 a).wf = true) (hb : (Lit.int .i64 b).wf = true) (hc : (Lit.int .i64 c).wf = true) : ∃ l, keyOf P k (.agg #[.int .i64 a, .int .i64 b, .int .i64 c]) = some l := by
  obtain ⟨m, hm⟩ : ∃ m, P.types.size = m + 1 := Nat.exists_eq_add_one_of_ne_zero (fun e => by rw [e] at hrow; exact Nat.not_lt_zero _ hrow)
  unfold keyOf
  rw [hk]
  simp [hkt, Value.formed, hk, hck, Program.keyLits, Value.cells, hm, he, hce, ha, hb, hc, hall, hfs, t0, t1, t2, o0, o1, o2]
theorem key_tr (t i k : Int) (h : IntT ⟨t, i, k⟩) : ∃ l, keyOf Tryz.prog 109 (keyVal t i k) = some l :=
  keyOf_three Tryz.underlying109 Tryz.underlying3 Tryz.keyTypeTr Tryz.cellsTr Tryz.cellsInt Tryz.rowTr (by simp) rfl rfl rfl rfl rfl rfl rfl (wf_of h.1) (wf_of h.2.1) (wf_of h.2.2)
structure SeenD (D : DataW Unit) (ts : List Tr) : Prop where
  map : IsMap D
  at_ : ∀ (t i k : Int) (l : Lit), keyOf Tryz.prog 109 (keyVal t i k) = some l → D.atKey l (.lit (.bool false)) = .lit (.bool (decide ((⟨t, i, k⟩ : Tr) ∈ ts)))
def Seen (w : World) (b : Nat) (ts : List Tr) : Prop := ∃ D : DataW Unit, w.ownsMap Tryz.prog 109 (plainElem Tryz.prog 4) b ts.length D ∧ SeenD D ts
theorem Seen.made (w : World) : Seen (w.alloc (.map #[] 0)) w.heap.size [] := ⟨_, World.ownsMap_made _ _ _ _, ⟨[], rfl⟩, fun t i k l h => by simp [DataW.atKey]⟩
theorem Seen.lt {w : World} {b : Nat} {ts : List Tr} (h : Seen w b ts) : b < w.heap.size := by
  obtain ⟨D, h1, _⟩ := h
  exact h1.lt
theorem Seen.grown {w w' : World} {b : Nat} {ts : List Tr} {row : Option Nat} (h : Seen w b ts) (hg : w.grownBy w' row) (hne : some b ≠ row) : Seen w' b ts := by
  obtain ⟨D, h1, h2⟩ := h
  exact ⟨D, h1.kept hg hne, h2⟩
theorem Seen.notCells {w : World} {b : Nat} {ts : List Tr} (h : Seen w b ts) (cur : Array Value) (e : TypeId) (fz : Nat × Nat) : w.heap[b]? ≠ some (.cells cur e fz) := by
  obtain ⟨D, ⟨es, clock, h1, _⟩, _⟩ := h
  rw [h1]
  simp
theorem Tryz.zeroBool (w : World) : (zeroValue 4).run Tryz.prog w = .ok (.bool false) w := by kernel_rfl
theorem Seen.look {w : World} {b : Nat} {ts : List Tr} (h : Seen w b ts) (t i k : Int) (hi : IntT ⟨t, i, k⟩) (c : Bool) (hc : c = decide ((⟨t, i, k⟩ : Tr) ∈ ts)) :
    (Instr.lookup 107 (.map (some b)) (.agg #[.int .i64 t, .int .i64 i, .int .i64 k]) false).run Tryz.prog w = .ok (.bool c) w := by
  obtain ⟨D, h1, h2⟩ := h
  obtain ⟨l, hl⟩ := key_tr t i k hi
  obtain ⟨v, ps, hrun, hv⟩ := h1.lookup lawTr Tryz.underlying107 (Tryz.zeroBool w) (plainElem_bool Tryz.underlying4 false) hl
  rw [h2.at_ t i k l hl] at hv
  have : v = .bool c := by
    unfold plainElem at hv
    rw [Tryz.underlying4] at hv
    cases v <;> simp at hv
    rw [hv.1, hc]
  rw [← this]
  exact hrun
theorem SeenD.put {D : DataW Unit} {ts : List Tr} (h : SeenD D ts) (t i k : Int) (l : Lit) (hl : keyOf Tryz.prog 109 (keyVal t i k) = some l) : SeenD (D.put l (.lit (.bool true))) (ts ++ [⟨t, i, k⟩]) := by
  refine ⟨h.map.put _ _, fun t' i' k' l' hl' => ?_⟩
  by_cases he : l' = l
  · subst he
    rw [Maps.atKey_put_same h.map (lawTr.key hl)]
    have := lawTr.inj hl hl'
    simp [keyVal] at this
    obtain ⟨rfl, rfl, rfl⟩ := this
    simp
  · rw [Maps.atKey_put_other he, h.at_ t' i' k' l' hl']
    have hne : (⟨t', i', k'⟩ : Tr) ≠ ⟨t, i, k⟩ := by
      intro e
      simp at e
      obtain ⟨rfl, rfl, rfl⟩ := e
      rw [hl] at hl'
      simp at hl'
      exact he hl'.symm
    simp [hne]
theorem wpList_seen (w : World) {ops : Array Oper} {rest : List Oper} {o : Oper} {a : Act} {Q : Exit → Act → World → Prop} (hg : o.guard = none) (m x v : Operand) (hop : o.op = Op.mapUpdate 107 m x v)
    (b : Nat) (ts : List Tr) (h : Seen w b ts) (hn : ts.length < maxLen) (hm : a.eval m = .map (some b)) (t i k : Int) (hx : a.eval x = .agg #[.int .i64 t, .int .i64 i, .int .i64 k]) (hv : a.eval v = .bool true) (hi : IntT ⟨t, i, k⟩)
    (hK : ∀ w', Seen w' b (ts ++ [⟨t, i, k⟩]) → w.grownBy w' (some b) → wpList Tryz.prog ops Q rest (a.put o.dst undef) w') : wpList Tryz.prog ops Q (o :: rest) a w := by
  obtain ⟨D, h1, h2⟩ := h
  obtain ⟨l, hl⟩ := key_tr t i k hi
  refine wpList_mapUpdate_own w hg m x v _ hop _ _ lawTr Tryz.underlying107 _ b _ D hm h1 hn _ _ l hx hv hl _ [] (plainElem_bool Tryz.underlying4 true) ?_
  intro w' h3 h4
  exact hK w' ⟨_, by simpa using h3, h2.put t i k l hl⟩ h4
end Go.Proofs.YtnbkffehhahckaaGreat

namespace Go.Proofs.YtnbkffehhahckaaGreat
open Go.RowKit
set_option linter.unusedVariables false
theorem Own.kept_row {w w' : World} {base : Nat} {e : TypeId} {v : Value} {xs : List Int} {k : Nat} (h : Own w base e v xs) (hg : w.grownBy w' (some k)) (hk : k < base) : Own w' base e v xs :=
  World.ownsRow.kept h hg (by
    rcases hv : v.ownBlock with _ | b
    · exact Or.inl rfl
    · have := (h.lt b hv).1
      exact Or.inr (by simp; omega))
set_option maxHeartbeats 800000 in
theorem mbytes_any (W w : World) (k : Nat) (h : Cod W w k) (n : Nat) (hn : n ≤ 100000) :
    Calls Tryz.prog 29 #[.pointer (some ⟨k, 0, none⟩), .int .i64 n] w fun e w' => ∃ p c ys, e = .returned (.slice p n c) ∧ Bod w' w.heap.size p n c ys ∧ Cod W w' k ∧ w.grownBy w' (some k) := by
  obtain ⟨i0, hi, hz0, hz1, hz2⟩ := info_parts Tryz.infoByte
  have hk := h.lt
  have H := hidden h
  clear h
  go_enter Tryz.func29, Tryz.ntmps29
  go_wp2
  go_loopw [5, 6] (fun u i wr => ∃ j : Nat, j ≤ n ∧ i = .int .i64 j ∧ ∃ ys : List Int, ys.length = j ∧ (∀ x ∈ ys, 0 ≤ x ∧ x ≤ 255) ∧ Own wr w.heap.size 5 u ys ∧ Cod W wr k ∧ w.grownBy wr (some k)) (fun _ i _ => n - (intOf i).toNat)
  case atStart => exact ⟨0, by omega, rfl, [], rfl, by simp, Own.nil _ _ _, H.out, grown_refl _ _⟩
  case round =>
    obtain ⟨j, hj, rfl, ys, hl, hr, ho, hc, hg⟩ := hrel
    have HO := hidden ho
    have HR := hidden hr
    have HC := hidden hc
    have HG := hidden hg
    clear ho hr hc hg H
    by_cases hlt : j < n
    · go_wp2_with (go_at_call 13; refine (next_any W _ k HC.out _ ?_).mono ?_; omega)
      rintro e w2 ⟨r, rfl, r0, r1, hc, hg⟩
      have HO2 := hidden (HO.out.kept_row hg hk)
      have HC2 := hidden hc
      have HG2 := hidden (grown_trans HG.out hg)
      clear hc hg HO HC HG
      go_wp2_with (at_builtin; go_loud (refine wpList_append_byt _ rfl _ _ 22 rfl w.heap.size 5 i0 (.int .u8 0) Tryz.underlying22 hi hz0 hz1 hz2 rfl _ _ rfl (HO2.out.alloc _) _ _ _ _ _ rfl (one_byte _ _ ((r + j * 7) % 256) ?c0 ?c1) rfl ?c2 ?c3 ?_))
      case c0 => omega
      case c1 => rw [World.cell?_alloc_at _ _ _ _ rfl]; rfl
      case c2 => omega
      case c3 => have := HG2.out.size; simp; omega
      intro u w4 hown hg
      have HC4 := hidden ((HC2.out.alloc _).grown hg (fun e => by have := (HO2.out.lt k e.symm).1; omega) (fun j hj => by have := (HO2.out.lt j hj).1; have := HC2.out.bel.size; have := HC2.out.base; omega))
      have HG4 := hidden (grown_own (grown_alloc_new HG2.out _) hg (fun j hj => (HO2.out.lt j hj).1))
      have HO4 := hidden hown
      clear hown hg HO2 HC2 HG2
      go_wp2
      go_roundw
      case rel => exact ⟨j + 1, by omega, by go_num, _, by simp [hl], rng_append HR.out (by intro z hz; simp at hz; omega), HO4.out, HC4.out, HG4.out⟩
      case measure => simp [intOf]; omega
    · obtain rfl : j = n := by omega
      obtain ⟨p, c, rfl, hb⟩ := HO.out.bod hl HR.out
      have HB := hidden hb
      clear hb HO HR
      go_wp2
      go_ret
      exact ⟨p, c, ys, rfl, HB.out, HC.out, HG.out⟩
end Go.Proofs.YtnbkffehhahckaaGreat
