/-
  Ranges of addresses: all of a family, and the drawn ones.
-/
import Derived.Test.YtignenekomlleaaPrefix
namespace Go.Proofs.Ytignenekomlleaa
open Go.RowKit
set_option linter.unusedVariables false

theorem put_two0 {w : World} {B R S : Nat} {r s x y : Ad} (hr : AdIn w R r) (hs : AdIn w S s) (hne : R ≠ S) (h1 : B ≤ R) (h2 : B ≤ S) : AdIn ((((((w.setCell ⟨R, 0, none⟩ (.int .i64 x.f)).setCell ⟨R, 1, none⟩ (.int .u64 x.h)).setCell ⟨R, 2, none⟩ (.int .u64 x.l)).setCell ⟨S, 0, none⟩ (.int .i64 y.f)).setCell ⟨S, 1, none⟩ (.int .u64 y.h)).setCell ⟨S, 2, none⟩ (.int .u64 y.l)) R x ∧ AdIn ((((((w.setCell ⟨R, 0, none⟩ (.int .i64 x.f)).setCell ⟨R, 1, none⟩ (.int .u64 x.h)).setCell ⟨R, 2, none⟩ (.int .u64 x.l)).setCell ⟨S, 0, none⟩ (.int .i64 y.f)).setCell ⟨S, 1, none⟩ (.int .u64 y.h)).setCell ⟨S, 2, none⟩ (.int .u64 y.l)) S y ∧ (∀ W : World, W.heap.size = B → Below B W w → Below B W ((((((w.setCell ⟨R, 0, none⟩ (.int .i64 x.f)).setCell ⟨R, 1, none⟩ (.int .u64 x.h)).setCell ⟨R, 2, none⟩ (.int .u64 x.l)).setCell ⟨S, 0, none⟩ (.int .i64 y.f)).setCell ⟨S, 1, none⟩ (.int .u64 y.h)).setCell ⟨S, 2, none⟩ (.int .u64 y.l))) ∧ (∀ (W0 : World) (k : Nat), Cod W0 w k → W0.heap.size ≤ B → k < B → Cod W0 ((((((w.setCell ⟨R, 0, none⟩ (.int .i64 x.f)).setCell ⟨R, 1, none⟩ (.int .u64 x.h)).setCell ⟨R, 2, none⟩ (.int .u64 x.l)).setCell ⟨S, 0, none⟩ (.int .i64 y.f)).setCell ⟨S, 1, none⟩ (.int .u64 y.h)).setCell ⟨S, 2, none⟩ (.int .u64 y.l)) k) ∧ (∀ (W : World) (k : Nat), W.heap.size = B → W.grownBy w (some k) → W.grownBy ((((((w.setCell ⟨R, 0, none⟩ (.int .i64 x.f)).setCell ⟨R, 1, none⟩ (.int .u64 x.h)).setCell ⟨R, 2, none⟩ (.int .u64 x.l)).setCell ⟨S, 0, none⟩ (.int .i64 y.f)).setCell ⟨S, 1, none⟩ (.int .u64 y.h)).setCell ⟨S, 2, none⟩ (.int .u64 y.l)) (some k)) := by
  have hne' : ¬ S = R := fun e => hne e.symm
  refine ⟨?_, ?_, ?_, ?_, ?_⟩
  · obtain ⟨c0, c1, c2, fr⟩ := hr
    exact ⟨by go_simp, by go_simp, by go_simp, fun j => by go_simp⟩
  · obtain ⟨c0, c1, c2, fr⟩ := hs
    exact ⟨by go_simp, by go_simp, by go_simp, fun j => by go_simp⟩
  · intro W hW hb
    exact ((((((hb.setCell (p := ⟨R, 0, none⟩) (by simp <;> omega) _).setCell (p := ⟨R, 1, none⟩) (by simp <;> omega) _).setCell (p := ⟨R, 2, none⟩) (by simp <;> omega) _).setCell (p := ⟨S, 0, none⟩) (by simp <;> omega) _).setCell (p := ⟨S, 1, none⟩) (by simp <;> omega) _).setCell (p := ⟨S, 2, none⟩) (by simp <;> omega) _)
  · intro W0 k hc hB hk
    repeat' (first | with_reducible exact hc | (with_reducible refine Cod.set ?_ _ _ _ (by omega) (by omega)))
  · intro W k hW hg
    repeat' (first | with_reducible exact hg | (with_reducible refine grown_set_new ?_ _ _ _ (by omega)))
theorem put_two1 {w : World} {B R S : Nat} {r s x y : Ad} (hr : AdIn w R r) (hs : AdIn w S s) (hne : R ≠ S) (h1 : B ≤ R) (h2 : B ≤ S) : AdIn ((((((w.setCell ⟨R, 0, none⟩ (.int .i64 x.f)).setCell ⟨R, 1, none⟩ (.int .u64 x.h)).setCell ⟨R, 2, none⟩ (.int .u64 x.l)).setCell ⟨S, 0, none⟩ (.int .i64 y.f)).setCell ⟨S, 1, none⟩ (.int .u64 y.h)).setCell ⟨S, 2, none⟩ (.int .u64 y.l)).drew R x ∧ AdIn ((((((w.setCell ⟨R, 0, none⟩ (.int .i64 x.f)).setCell ⟨R, 1, none⟩ (.int .u64 x.h)).setCell ⟨R, 2, none⟩ (.int .u64 x.l)).setCell ⟨S, 0, none⟩ (.int .i64 y.f)).setCell ⟨S, 1, none⟩ (.int .u64 y.h)).setCell ⟨S, 2, none⟩ (.int .u64 y.l)).drew S y ∧ (∀ W : World, W.heap.size = B → Below B W w → Below B W ((((((w.setCell ⟨R, 0, none⟩ (.int .i64 x.f)).setCell ⟨R, 1, none⟩ (.int .u64 x.h)).setCell ⟨R, 2, none⟩ (.int .u64 x.l)).setCell ⟨S, 0, none⟩ (.int .i64 y.f)).setCell ⟨S, 1, none⟩ (.int .u64 y.h)).setCell ⟨S, 2, none⟩ (.int .u64 y.l)).drew) ∧ (∀ (W0 : World) (k : Nat), Cod W0 w k → W0.heap.size ≤ B → k < B → Cod W0 ((((((w.setCell ⟨R, 0, none⟩ (.int .i64 x.f)).setCell ⟨R, 1, none⟩ (.int .u64 x.h)).setCell ⟨R, 2, none⟩ (.int .u64 x.l)).setCell ⟨S, 0, none⟩ (.int .i64 y.f)).setCell ⟨S, 1, none⟩ (.int .u64 y.h)).setCell ⟨S, 2, none⟩ (.int .u64 y.l)).drew k) ∧ (∀ (W : World) (k : Nat), W.heap.size = B → W.grownBy w (some k) → W.grownBy ((((((w.setCell ⟨R, 0, none⟩ (.int .i64 x.f)).setCell ⟨R, 1, none⟩ (.int .u64 x.h)).setCell ⟨R, 2, none⟩ (.int .u64 x.l)).setCell ⟨S, 0, none⟩ (.int .i64 y.f)).setCell ⟨S, 1, none⟩ (.int .u64 y.h)).setCell ⟨S, 2, none⟩ (.int .u64 y.l)).drew (some k)) := by
  have hne' : ¬ S = R := fun e => hne e.symm
  refine ⟨?_, ?_, ?_, ?_, ?_⟩
  · obtain ⟨c0, c1, c2, fr⟩ := hr
    exact ⟨by go_simp, by go_simp, by go_simp, fun j => by go_simp⟩
  · obtain ⟨c0, c1, c2, fr⟩ := hs
    exact ⟨by go_simp, by go_simp, by go_simp, fun j => by go_simp⟩
  · intro W hW hb
    exact ((((((hb.setCell (p := ⟨R, 0, none⟩) (by simp <;> omega) _).setCell (p := ⟨R, 1, none⟩) (by simp <;> omega) _).setCell (p := ⟨R, 2, none⟩) (by simp <;> omega) _).setCell (p := ⟨S, 0, none⟩) (by simp <;> omega) _).setCell (p := ⟨S, 1, none⟩) (by simp <;> omega) _).setCell (p := ⟨S, 2, none⟩) (by simp <;> omega) _).trans (drew_below ⟨1, rfl⟩)
  · intro W0 k hc hB hk
    refine Cod.below ?_ (drew_below ⟨1, rfl⟩)
    repeat' (first | with_reducible exact hc | (with_reducible refine Cod.set ?_ _ _ _ (by omega) (by omega)))
  · intro W k hW hg
    refine grown_trans ?_ (grown_drewN _ 1 _)
    repeat' (first | with_reducible exact hg | (with_reducible refine grown_set_new ?_ _ _ _ (by omega)))
theorem put_two2 {w : World} {B R S : Nat} {r s x y : Ad} (hr : AdIn w R r) (hs : AdIn w S s) (hne : R ≠ S) (h1 : B ≤ R) (h2 : B ≤ S) : AdIn ((((((w.setCell ⟨S, 0, none⟩ (.int .i64 y.f)).setCell ⟨S, 1, none⟩ (.int .u64 y.h)).setCell ⟨S, 2, none⟩ (.int .u64 y.l)).setCell ⟨R, 0, none⟩ (.int .i64 x.f)).setCell ⟨R, 1, none⟩ (.int .u64 x.h)).setCell ⟨R, 2, none⟩ (.int .u64 x.l)).drew R x ∧ AdIn ((((((w.setCell ⟨S, 0, none⟩ (.int .i64 y.f)).setCell ⟨S, 1, none⟩ (.int .u64 y.h)).setCell ⟨S, 2, none⟩ (.int .u64 y.l)).setCell ⟨R, 0, none⟩ (.int .i64 x.f)).setCell ⟨R, 1, none⟩ (.int .u64 x.h)).setCell ⟨R, 2, none⟩ (.int .u64 x.l)).drew S y ∧ (∀ W : World, W.heap.size = B → Below B W w → Below B W ((((((w.setCell ⟨S, 0, none⟩ (.int .i64 y.f)).setCell ⟨S, 1, none⟩ (.int .u64 y.h)).setCell ⟨S, 2, none⟩ (.int .u64 y.l)).setCell ⟨R, 0, none⟩ (.int .i64 x.f)).setCell ⟨R, 1, none⟩ (.int .u64 x.h)).setCell ⟨R, 2, none⟩ (.int .u64 x.l)).drew) ∧ (∀ (W0 : World) (k : Nat), Cod W0 w k → W0.heap.size ≤ B → k < B → Cod W0 ((((((w.setCell ⟨S, 0, none⟩ (.int .i64 y.f)).setCell ⟨S, 1, none⟩ (.int .u64 y.h)).setCell ⟨S, 2, none⟩ (.int .u64 y.l)).setCell ⟨R, 0, none⟩ (.int .i64 x.f)).setCell ⟨R, 1, none⟩ (.int .u64 x.h)).setCell ⟨R, 2, none⟩ (.int .u64 x.l)).drew k) ∧ (∀ (W : World) (k : Nat), W.heap.size = B → W.grownBy w (some k) → W.grownBy ((((((w.setCell ⟨S, 0, none⟩ (.int .i64 y.f)).setCell ⟨S, 1, none⟩ (.int .u64 y.h)).setCell ⟨S, 2, none⟩ (.int .u64 y.l)).setCell ⟨R, 0, none⟩ (.int .i64 x.f)).setCell ⟨R, 1, none⟩ (.int .u64 x.h)).setCell ⟨R, 2, none⟩ (.int .u64 x.l)).drew (some k)) := by
  have hne' : ¬ S = R := fun e => hne e.symm
  refine ⟨?_, ?_, ?_, ?_, ?_⟩
  · obtain ⟨c0, c1, c2, fr⟩ := hr
    exact ⟨by go_simp, by go_simp, by go_simp, fun j => by go_simp⟩
  · obtain ⟨c0, c1, c2, fr⟩ := hs
    exact ⟨by go_simp, by go_simp, by go_simp, fun j => by go_simp⟩
  · intro W hW hb
    exact ((((((hb.setCell (p := ⟨S, 0, none⟩) (by simp <;> omega) _).setCell (p := ⟨S, 1, none⟩) (by simp <;> omega) _).setCell (p := ⟨S, 2, none⟩) (by simp <;> omega) _).setCell (p := ⟨R, 0, none⟩) (by simp <;> omega) _).setCell (p := ⟨R, 1, none⟩) (by simp <;> omega) _).setCell (p := ⟨R, 2, none⟩) (by simp <;> omega) _).trans (drew_below ⟨1, rfl⟩)
  · intro W0 k hc hB hk
    refine Cod.below ?_ (drew_below ⟨1, rfl⟩)
    repeat' (first | with_reducible exact hc | (with_reducible refine Cod.set ?_ _ _ _ (by omega) (by omega)))
  · intro W k hW hg
    refine grown_trans ?_ (grown_drewN _ 1 _)
    repeat' (first | with_reducible exact hg | (with_reducible refine grown_set_new ?_ _ _ _ (by omega)))

/-- A range of addresses of a family. -/
structure RangeA (f : Int) (lo hi : Ad) : Prop where
  dlo : DrawA f lo
  dhi : DrawA f hi
  le : keyA lo ≤ keyA hi
theorem PreA.range {a lo hi : Ad} {f : Int} (hf : f = 4 ∨ f = 6) (d : DrawA f a) (p : PreA a lo hi) : RangeA f lo hi := by
  have e := d.fam
  have h1 := p.h1
  have h2 := p.h2
  have l1 := p.l1
  have l2 := p.l2
  have v := d.ok
  have fh := d.fit.h
  have fl := d.fit.l
  have q1 : lo.f = f := p.f1.trans e
  have q2 : hi.f = f := p.f2.trans e
  have four := p.four
  rw [e] at four
  have hz : f = 4 → a.h = 0 ∧ a.l < 4294967296 := by
    intro h
    unfold validA at v
    rw [e, h] at v
    simp at v
    exact v
  refine ⟨⟨q1, ⟨by omega, by omega, by omega⟩, ?_⟩, ⟨q2, ⟨by omega, by omega, by omega⟩, ?_⟩, ?_⟩
  · unfold validA
    rw [q1]
    rcases hf with h | h
    · have := hz h
      simp [h]
      omega
    · simp [h]
  · unfold validA
    rw [q2]
    rcases hf with h | h
    · have := four h
      simp [h]
      omega
    · simp [h]
  · unfold keyA
    rw [q1, q2]
    omega
theorem draw_zero (f : Int) (hf : f = 4 ∨ f = 6) : DrawA f ⟨f, 0, 0⟩ := ⟨rfl, ⟨by simp; omega, by simp, by simp⟩, by unfold validA; rcases hf with rfl | rfl <;> decide⟩

set_option maxHeartbeats 1600000 in
set_option maxRecDepth 100000 in
theorem all_any (f : Int) (hf : f = 4 ∨ f = 6) (w : World) :
    Calls Try.prog 93 #[.int .i64 f] w fun e w' => ∃ lo hi : Ad, e = .returned (.tuple #[(.agg #[.int .i64 lo.f, .int .u64 lo.h, .int .u64 lo.l]), (.agg #[.int .i64 hi.f, .int .u64 hi.h, .int .u64 hi.l])]) ∧ RangeA f lo hi ∧ Below w.heap.size w w' := by
  have hz := draw_zero f hf
  have HPX := hidden (prefix_any ⟨f, 0, 0⟩ hz.fit hz.ok 0 ⟨by omega, by omega⟩)
  have HRG := hidden (fun lo hi (p : PreA ⟨f, 0, 0⟩ lo hi) => p.range hf hz)
  have HB := hidden (below_two (w := w) (.cells #[.int .i64 0, .int .u64 0, .int .u64 0] 46) (.cells #[.int .i64 0, .int .u64 0, .int .u64 0] 46))
  have HR := hidden ((AdIn.new w zeroA 46).alloc (.cells #[.int .i64 0, .int .u64 0, .int .u64 0] 46))
  have HS : Hid (AdIn ((w.alloc (.cells #[.int .i64 0, .int .u64 0, .int .u64 0] 46)).alloc (.cells #[.int .i64 0, .int .u64 0, .int .u64 0] 46)) (w.heap.size + 1) zeroA) := hidden (by
    have := (AdIn.new (w.alloc (.cells #[.int .i64 0, .int .u64 0, .int .u64 0] 46)) zeroA 46)
    simpa [zeroA] using this)
  clear hz
  go_enter Try.func93, Try.ntmps93
  go_wp2_with (go_at_call 94; (with_reducible refine (HPX.out _).mono ?_); rintro e w1 ⟨lo, hi, rfl, hp, hb⟩; have HRA := hidden (HRG.out _ _ hp); have HB1 := hidden (HB.out.trans (hb.mono HB.out.size)); have HR1 := hidden (((HR.out.below hb).alloc (.cells #[.int .i64 lo.f, .int .u64 lo.h, .int .u64 lo.l] 46)).alloc (.cells #[.int .i64 hi.f, .int .u64 hi.h, .int .u64 hi.l] 46)); have HS1 := hidden (((HS.out.below hb).alloc (.cells #[.int .i64 lo.f, .int .u64 lo.h, .int .u64 lo.l] 46)).alloc (.cells #[.int .i64 hi.f, .int .u64 hi.h, .int .u64 hi.l] 46)); have hs1 := (HS.out.below hb).lt; clear hp hb HB HR HS HPX HRG)
  obtain ⟨r0, r1, r2, rf⟩ := HR1.out
  obtain ⟨s0, s1, s2, sf⟩ := HS1.out
  go_region
  all_goals go_wp2_with fail
  all_goals first
    | (obtain ⟨z1, z2, z3, z4, z5⟩ := put_two1 (B := w.heap.size) (x := lo) (y := hi) HR1.out HS1.out (by omega) (by omega) (by omega)
       refine ret_ad2 (g1 := w.heap.size) (g2 := w.heap.size + 1) (x := lo) (y := hi) rfl rfl rfl rfl z1 z2 ?_
       exact ⟨lo, hi, rfl, HRA.out, z3 w rfl ((HB1.out.alloc HB1.out.size _).alloc (by have := HB1.out.size; simp; omega) _)⟩)
    | (obtain ⟨z1, z2, z3, z4, z5⟩ := put_two2 (B := w.heap.size) (x := lo) (y := hi) HR1.out HS1.out (by omega) (by omega) (by omega)
       refine ret_ad2 (g1 := w.heap.size) (g2 := w.heap.size + 1) (x := lo) (y := hi) rfl rfl rfl rfl z1 z2 ?_
       exact ⟨lo, hi, rfl, HRA.out, z3 w rfl ((HB1.out.alloc HB1.out.size _).alloc (by have := HB1.out.size; simp; omega) _)⟩)
    | fail
end Go.Proofs.Ytignenekomlleaa
