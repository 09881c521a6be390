/-
  Ranges of addresses: all of a family, and the drawn ones.
  The range of addresses that a list of choices makes.
  The selector that a list of choices makes: it is good, and of the family that is asked for.
  Rows of selectors in memory; the lists of selectors that a list of choices makes.
-/
import Derived.Test.YtpocehpejbnemaaDoorRZ19
import Derived.Test.YtpocehpejbnemaaDoorRZ0
namespace Go.Proofs.YtpocehpejbnemaaDoor
open Go.RowKit
set_option linter.unusedVariables false

theorem put_two0 {w : World} {B R S : Nat} {r s x y : Ad} (hr : AdIn w R r) (hs : AdIn w S s) (hne : R ≠ S) (h1 : B ≤ R) (h2 : B ≤ S) : AdIn ((((((w.setCell ⟨R, 0, none⟩ (.int .i64 x.f)).setCell ⟨R, 1, none⟩ (.int .u64 x.h)).setCell ⟨R, 2, none⟩ (.int .u64 x.l)).setCell ⟨S, 0, none⟩ (.int .i64 y.f)).setCell ⟨S, 1, none⟩ (.int .u64 y.h)).setCell ⟨S, 2, none⟩ (.int .u64 y.l)) R x ∧ AdIn ((((((w.setCell ⟨R, 0, none⟩ (.int .i64 x.f)).setCell ⟨R, 1, none⟩ (.int .u64 x.h)).setCell ⟨R, 2, none⟩ (.int .u64 x.l)).setCell ⟨S, 0, none⟩ (.int .i64 y.f)).setCell ⟨S, 1, none⟩ (.int .u64 y.h)).setCell ⟨S, 2, none⟩ (.int .u64 y.l)) S y ∧ (∀ W : World, W.heap.size = B → Below B W w → Below B W ((((((w.setCell ⟨R, 0, none⟩ (.int .i64 x.f)).setCell ⟨R, 1, none⟩ (.int .u64 x.h)).setCell ⟨R, 2, none⟩ (.int .u64 x.l)).setCell ⟨S, 0, none⟩ (.int .i64 y.f)).setCell ⟨S, 1, none⟩ (.int .u64 y.h)).setCell ⟨S, 2, none⟩ (.int .u64 y.l))) ∧ (∀ (W0 : World) (k : Nat), Cod W0 w k → W0.heap.size ≤ B → k < B → Cod W0 ((((((w.setCell ⟨R, 0, none⟩ (.int .i64 x.f)).setCell ⟨R, 1, none⟩ (.int .u64 x.h)).setCell ⟨R, 2, none⟩ (.int .u64 x.l)).setCell ⟨S, 0, none⟩ (.int .i64 y.f)).setCell ⟨S, 1, none⟩ (.int .u64 y.h)).setCell ⟨S, 2, none⟩ (.int .u64 y.l)) k) ∧ (∀ (W : World) (k : Nat), W.heap.size = B → W.grownBy w (some k) → W.grownBy ((((((w.setCell ⟨R, 0, none⟩ (.int .i64 x.f)).setCell ⟨R, 1, none⟩ (.int .u64 x.h)).setCell ⟨R, 2, none⟩ (.int .u64 x.l)).setCell ⟨S, 0, none⟩ (.int .i64 y.f)).setCell ⟨S, 1, none⟩ (.int .u64 y.h)).setCell ⟨S, 2, none⟩ (.int .u64 y.l)) (some k)) := by
  have hne' : ¬ S = R := fun e => hne e.symm
  refine ⟨?_, ?_, ?_, ?_, ?_⟩
  · obtain ⟨c0, c1, c2, fr⟩ := hr
    exact ⟨by go_simp, by go_simp, by go_simp, fun j => by go_simp⟩
  · obtain ⟨c0, c1, c2, fr⟩ := hs
    exact ⟨by go_simp, by go_simp, by go_simp, fun j => by go_simp⟩
  · intro W hW hb
    exact ((((((hb.setCell (p := ⟨R, 0, none⟩) (by simp <;> omega) _).setCell (p := ⟨R, 1, none⟩) (by simp <;> omega) _).setCell (p := ⟨R, 2, none⟩) (by simp <;> omega) _).setCell (p := ⟨S, 0, none⟩) (by simp <;> omega) _).setCell (p := ⟨S, 1, none⟩) (by simp <;> omega) _).setCell (p := ⟨S, 2, none⟩) (by simp <;> omega) _)
  · intro W0 k hc hB hk
    repeat' (first | with_reducible exact hc | (with_reducible refine Cod.set ?_ _ _ _ (by omega) (by omega)))
  · intro W k hW hg
    repeat' (first | with_reducible exact hg | (with_reducible refine grown_set_new ?_ _ _ _ (by omega)))
theorem put_two1 {w : World} {B R S : Nat} {r s x y : Ad} (hr : AdIn w R r) (hs : AdIn w S s) (hne : R ≠ S) (h1 : B ≤ R) (h2 : B ≤ S) : AdIn ((((((w.setCell ⟨R, 0, none⟩ (.int .i64 x.f)).setCell ⟨R, 1, none⟩ (.int .u64 x.h)).setCell ⟨R, 2, none⟩ (.int .u64 x.l)).setCell ⟨S, 0, none⟩ (.int .i64 y.f)).setCell ⟨S, 1, none⟩ (.int .u64 y.h)).setCell ⟨S, 2, none⟩ (.int .u64 y.l)).drew R x ∧ AdIn ((((((w.setCell ⟨R, 0, none⟩ (.int .i64 x.f)).setCell ⟨R, 1, none⟩ (.int .u64 x.h)).setCell ⟨R, 2, none⟩ (.int .u64 x.l)).setCell ⟨S, 0, none⟩ (.int .i64 y.f)).setCell ⟨S, 1, none⟩ (.int .u64 y.h)).setCell ⟨S, 2, none⟩ (.int .u64 y.l)).drew S y ∧ (∀ W : World, W.heap.size = B → Below B W w → Below B W ((((((w.setCell ⟨R, 0, none⟩ (.int .i64 x.f)).setCell ⟨R, 1, none⟩ (.int .u64 x.h)).setCell ⟨R, 2, none⟩ (.int .u64 x.l)).setCell ⟨S, 0, none⟩ (.int .i64 y.f)).setCell ⟨S, 1, none⟩ (.int .u64 y.h)).setCell ⟨S, 2, none⟩ (.int .u64 y.l)).drew) ∧ (∀ (W0 : World) (k : Nat), Cod W0 w k → W0.heap.size ≤ B → k < B → Cod W0 ((((((w.setCell ⟨R, 0, none⟩ (.int .i64 x.f)).setCell ⟨R, 1, none⟩ (.int .u64 x.h)).setCell ⟨R, 2, none⟩ (.int .u64 x.l)).setCell ⟨S, 0, none⟩ (.int .i64 y.f)).setCell ⟨S, 1, none⟩ (.int .u64 y.h)).setCell ⟨S, 2, none⟩ (.int .u64 y.l)).drew k) ∧ (∀ (W : World) (k : Nat), W.heap.size = B → W.grownBy w (some k) → W.grownBy ((((((w.setCell ⟨R, 0, none⟩ (.int .i64 x.f)).setCell ⟨R, 1, none⟩ (.int .u64 x.h)).setCell ⟨R, 2, none⟩ (.int .u64 x.l)).setCell ⟨S, 0, none⟩ (.int .i64 y.f)).setCell ⟨S, 1, none⟩ (.int .u64 y.h)).setCell ⟨S, 2, none⟩ (.int .u64 y.l)).drew (some k)) := by
  have hne' : ¬ S = R := fun e => hne e.symm
  refine ⟨?_, ?_, ?_, ?_, ?_⟩
  · obtain ⟨c0, c1, c2, fr⟩ := hr
    exact ⟨by go_simp, by go_simp, by go_simp, fun j => by go_simp⟩
  · obtain ⟨c0, c1, c2, fr⟩ := hs
    exact ⟨by go_simp, by go_simp, by go_simp, fun j => by go_simp⟩
  · intro W hW hb
    exact ((((((hb.setCell (p := ⟨R, 0, none⟩) (by simp <;> omega) _).setCell (p := ⟨R, 1, none⟩) (by simp <;> omega) _).setCell (p := ⟨R, 2, none⟩) (by simp <;> omega) _).setCell (p := ⟨S, 0, none⟩) (by simp <;> omega) _).setCell (p := ⟨S, 1, none⟩) (by simp <;> omega) _).setCell (p := ⟨S, 2, none⟩) (by simp <;> omega) _).trans (drew_below ⟨1, rfl⟩)
  · intro W0 k hc hB hk
    refine Cod.below ?_ (drew_below ⟨1, rfl⟩)
    repeat' (first | with_reducible exact hc | (with_reducible refine Cod.set ?_ _ _ _ (by omega) (by omega)))
  · intro W k hW hg
    refine grown_trans ?_ (grown_drewN _ 1 _)
    repeat' (first | with_reducible exact hg | (with_reducible refine grown_set_new ?_ _ _ _ (by omega)))
theorem put_two2 {w : World} {B R S : Nat} {r s x y : Ad} (hr : AdIn w R r) (hs : AdIn w S s) (hne : R ≠ S) (h1 : B ≤ R) (h2 : B ≤ S) : AdIn ((((((w.setCell ⟨S, 0, none⟩ (.int .i64 y.f)).setCell ⟨S, 1, none⟩ (.int .u64 y.h)).setCell ⟨S, 2, none⟩ (.int .u64 y.l)).setCell ⟨R, 0, none⟩ (.int .i64 x.f)).setCell ⟨R, 1, none⟩ (.int .u64 x.h)).setCell ⟨R, 2, none⟩ (.int .u64 x.l)).drew R x ∧ AdIn ((((((w.setCell ⟨S, 0, none⟩ (.int .i64 y.f)).setCell ⟨S, 1, none⟩ (.int .u64 y.h)).setCell ⟨S, 2, none⟩ (.int .u64 y.l)).setCell ⟨R, 0, none⟩ (.int .i64 x.f)).setCell ⟨R, 1, none⟩ (.int .u64 x.h)).setCell ⟨R, 2, none⟩ (.int .u64 x.l)).drew S y ∧ (∀ W : World, W.heap.size = B → Below B W w → Below B W ((((((w.setCell ⟨S, 0, none⟩ (.int .i64 y.f)).setCell ⟨S, 1, none⟩ (.int .u64 y.h)).setCell ⟨S, 2, none⟩ (.int .u64 y.l)).setCell ⟨R, 0, none⟩ (.int .i64 x.f)).setCell ⟨R, 1, none⟩ (.int .u64 x.h)).setCell ⟨R, 2, none⟩ (.int .u64 x.l)).drew) ∧ (∀ (W0 : World) (k : Nat), Cod W0 w k → W0.heap.size ≤ B → k < B → Cod W0 ((((((w.setCell ⟨S, 0, none⟩ (.int .i64 y.f)).setCell ⟨S, 1, none⟩ (.int .u64 y.h)).setCell ⟨S, 2, none⟩ (.int .u64 y.l)).setCell ⟨R, 0, none⟩ (.int .i64 x.f)).setCell ⟨R, 1, none⟩ (.int .u64 x.h)).setCell ⟨R, 2, none⟩ (.int .u64 x.l)).drew k) ∧ (∀ (W : World) (k : Nat), W.heap.size = B → W.grownBy w (some k) → W.grownBy ((((((w.setCell ⟨S, 0, none⟩ (.int .i64 y.f)).setCell ⟨S, 1, none⟩ (.int .u64 y.h)).setCell ⟨S, 2, none⟩ (.int .u64 y.l)).setCell ⟨R, 0, none⟩ (.int .i64 x.f)).setCell ⟨R, 1, none⟩ (.int .u64 x.h)).setCell ⟨R, 2, none⟩ (.int .u64 x.l)).drew (some k)) := by
  have hne' : ¬ S = R := fun e => hne e.symm
  refine ⟨?_, ?_, ?_, ?_, ?_⟩
  · obtain ⟨c0, c1, c2, fr⟩ := hr
    exact ⟨by go_simp, by go_simp, by go_simp, fun j => by go_simp⟩
  · obtain ⟨c0, c1, c2, fr⟩ := hs
    exact ⟨by go_simp, by go_simp, by go_simp, fun j => by go_simp⟩
  · intro W hW hb
    exact ((((((hb.setCell (p := ⟨S, 0, none⟩) (by simp <;> omega) _).setCell (p := ⟨S, 1, none⟩) (by simp <;> omega) _).setCell (p := ⟨S, 2, none⟩) (by simp <;> omega) _).setCell (p := ⟨R, 0, none⟩) (by simp <;> omega) _).setCell (p := ⟨R, 1, none⟩) (by simp <;> omega) _).setCell (p := ⟨R, 2, none⟩) (by simp <;> omega) _).trans (drew_below ⟨1, rfl⟩)
  · intro W0 k hc hB hk
    refine Cod.below ?_ (drew_below ⟨1, rfl⟩)
    repeat' (first | with_reducible exact hc | (with_reducible refine Cod.set ?_ _ _ _ (by omega) (by omega)))
  · intro W k hW hg
    refine grown_trans ?_ (grown_drewN _ 1 _)
    repeat' (first | with_reducible exact hg | (with_reducible refine grown_set_new ?_ _ _ _ (by omega)))

/-- A range of addresses of a family. -/
structure RangeA (f : Int) (lo hi : Ad) : Prop where
  dlo : DrawA f lo
  dhi : DrawA f hi
  le : keyA lo ≤ keyA hi
theorem PreA.range {a lo hi : Ad} {f : Int} (hf : f = 4 ∨ f = 6) (d : DrawA f a) (p : PreA a lo hi) : RangeA f lo hi := by
  have e := d.fam
  have h1 := p.h1
  have h2 := p.h2
  have l1 := p.l1
  have l2 := p.l2
  have v := d.ok
  have fh := d.fit.h
  have fl := d.fit.l
  have q1 : lo.f = f := p.f1.trans e
  have q2 : hi.f = f := p.f2.trans e
  have four := p.four
  rw [e] at four
  have hz : f = 4 → a.h = 0 ∧ a.l < 4294967296 := by
    intro h
    unfold validA at v
    rw [e, h] at v
    simp at v
    exact v
  refine ⟨⟨q1, ⟨by omega, by omega, by omega⟩, ?_⟩, ⟨q2, ⟨by omega, by omega, by omega⟩, ?_⟩, ?_⟩
  · unfold validA
    rw [q1]
    rcases hf with h | h
    · have := hz h
      simp [h]
      omega
    · simp [h]
  · unfold validA
    rw [q2]
    rcases hf with h | h
    · have := four h
      simp [h]
      omega
    · simp [h]
  · unfold keyA
    rw [q1, q2]
    omega
theorem draw_zero (f : Int) (hf : f = 4 ∨ f = 6) : DrawA f ⟨f, 0, 0⟩ := ⟨rfl, ⟨by simp; omega, by simp, by simp⟩, by unfold validA; rcases hf with rfl | rfl <;> decide⟩

set_option maxHeartbeats 1600000 in
set_option maxRecDepth 100000 in
theorem all_any (f : Int) (hf : f = 4 ∨ f = 6) (w : World) :
    Calls Tryd.prog 121 #[.int .i64 f] w fun e w' => ∃ lo hi : Ad, e = .returned (.tuple #[(.agg #[.int .i64 lo.f, .int .u64 lo.h, .int .u64 lo.l]), (.agg #[.int .i64 hi.f, .int .u64 hi.h, .int .u64 hi.l])]) ∧ RangeA f lo hi ∧ Below w.heap.size w w' := by
  have hz := draw_zero f hf
  have HPX := hidden (prefix_any ⟨f, 0, 0⟩ hz.fit hz.ok 0 ⟨by omega, by omega⟩)
  have HRG := hidden (fun lo hi (p : PreA ⟨f, 0, 0⟩ lo hi) => p.range hf hz)
  have HB := hidden (below_two (w := w) (.cells #[.int .i64 0, .int .u64 0, .int .u64 0] 115) (.cells #[.int .i64 0, .int .u64 0, .int .u64 0] 115))
  have HR := hidden ((AdIn.new w zeroA 115).alloc (.cells #[.int .i64 0, .int .u64 0, .int .u64 0] 115))
  have HS : Hid (AdIn ((w.alloc (.cells #[.int .i64 0, .int .u64 0, .int .u64 0] 115)).alloc (.cells #[.int .i64 0, .int .u64 0, .int .u64 0] 115)) (w.heap.size + 1) zeroA) := hidden (by
    have := (AdIn.new (w.alloc (.cells #[.int .i64 0, .int .u64 0, .int .u64 0] 115)) zeroA 115)
    simpa [zeroA] using this)
  clear hz
  go_enter Tryd.func121, Tryd.ntmps121
  go_wp2_with (go_at_call 122; (with_reducible refine (HPX.out _).mono ?_); rintro e w1 ⟨lo, hi, rfl, hp, hb⟩; have HRA := hidden (HRG.out _ _ hp); have HB1 := hidden (HB.out.trans (hb.mono HB.out.size)); have HR1 := hidden (((HR.out.below hb).alloc (.cells #[.int .i64 lo.f, .int .u64 lo.h, .int .u64 lo.l] 115)).alloc (.cells #[.int .i64 hi.f, .int .u64 hi.h, .int .u64 hi.l] 115)); have HS1 := hidden (((HS.out.below hb).alloc (.cells #[.int .i64 lo.f, .int .u64 lo.h, .int .u64 lo.l] 115)).alloc (.cells #[.int .i64 hi.f, .int .u64 hi.h, .int .u64 hi.l] 115)); have hs1 := (HS.out.below hb).lt; clear hp hb HB HR HS HPX HRG)
  obtain ⟨r0, r1, r2, rf⟩ := HR1.out
  obtain ⟨s0, s1, s2, sf⟩ := HS1.out
  go_region
  all_goals go_wp2_with fail
  all_goals first
    | (obtain ⟨z1, z2, z3, z4, z5⟩ := put_two1 (B := w.heap.size) (x := lo) (y := hi) HR1.out HS1.out (by omega) (by omega) (by omega)
       refine ret_ad2 (g1 := w.heap.size) (g2 := w.heap.size + 1) (x := lo) (y := hi) rfl rfl rfl rfl z1 z2 ?_
       exact ⟨lo, hi, rfl, HRA.out, z3 w rfl ((HB1.out.alloc HB1.out.size _).alloc (by have := HB1.out.size; simp; omega) _)⟩)
    | (obtain ⟨z1, z2, z3, z4, z5⟩ := put_two2 (B := w.heap.size) (x := lo) (y := hi) HR1.out HS1.out (by omega) (by omega) (by omega)
       refine ret_ad2 (g1 := w.heap.size) (g2 := w.heap.size + 1) (x := lo) (y := hi) rfl rfl rfl rfl z1 z2 ?_
       exact ⟨lo, hi, rfl, HRA.out, z3 w rfl ((HB1.out.alloc HB1.out.size _).alloc (by have := HB1.out.size; simp; omega) _)⟩)
    | fail
end Go.Proofs.YtpocehpejbnemaaDoor

namespace Go.Proofs.YtpocehpejbnemaaDoor
open Go.RowKit
set_option linter.unusedVariables false

/-- What Span returns. -/
def MadeR (W w : World) (k : Nat) (f : Int) (e : Ending) (w' : World) : Prop := ∃ lo hi : Ad, e = .returned (.tuple #[(.agg #[.int .i64 lo.f, .int .u64 lo.h, .int .u64 lo.l]), (.agg #[.int .i64 hi.f, .int .u64 hi.h, .int .u64 hi.l])]) ∧ RangeA f lo hi ∧ Cod W w' k ∧ w.grownBy w' (some k)
/-- Where Span stands: its two results. -/
structure SS (W w wx : World) (k : Nat) : Prop where
  cod : Cod W wx k
  gr : w.grownBy wx (some k)
  R : AdIn wx w.heap.size zeroA
  S : AdIn wx (w.heap.size + 1) zeroA
theorem SS.grown {W w wx wy : World} {k : Nat} (h : SS W w wx k) (hk : k < w.heap.size) (hc : Cod W wy k) (hg : wx.grownBy wy (some k)) : SS W w wy k :=
  ⟨hc, grown_trans h.gr hg, h.R.grown hg (by simp; omega), h.S.grown hg (by simp; omega)⟩
theorem SS.below {W w wx wy : World} {k : Nat} (h : SS W w wx k) (hb : Below wx.heap.size wx wy) : SS W w wy k :=
  ⟨h.cod.below hb, grown_trans h.gr (grown_of_below hb _), h.R.below hb, h.S.below hb⟩
theorem SS.alloc {W w wx : World} {k : Nat} (h : SS W w wx k) (o : Obj) : SS W w (wx.alloc o) k := h.below ((Below.refl _ _).alloc (Nat.le_refl _) o)

theorem key_fam {f : Int} {x y : Ad} (hx : DrawA f x) (hy : DrawA f y) (h : x.h < y.h ∨ (x.h = y.h ∧ x.l ≤ y.l)) : keyA x ≤ keyA y := by
  have h1 := hx.fam
  have h2 := hy.fam
  have h3 := hx.fit.l
  have h4 := hy.fit.l
  unfold keyA
  omega

set_option maxHeartbeats 3200000 in
set_option maxRecDepth 100000 in
theorem span_any (W w : World) (k : Nat) (h : Cod W w k) (f : Int) (hf : f = 4 ∨ f = 6) :
    Calls Tryd.prog 110 #[.pointer (some ⟨k, 0, none⟩), .int .i64 f] w (MadeR W w k f) := by
  have hk := h.lt
  have hbase := h.bel.size
  have H0 := hidden (show SS W w ((w.alloc (.cells #[.int .i64 0, .int .u64 0, .int .u64 0] 115)).alloc (.cells #[.int .i64 0, .int .u64 0, .int .u64 0] 115)) k from
    ⟨(h.alloc _).alloc _, grown_alloc_new (World.grownBy_alloc w _ _) _, (AdIn.new w zeroA 115).alloc _, by
      have := AdIn.new (w.alloc (.cells #[.int .i64 0, .int .u64 0, .int .u64 0] 115)) zeroA 115
      simpa [zeroA] using this⟩)
  have HAL := hidden (all_any f hf)
  have HAD := hidden (fun w' (hc : Cod W w' k) => addr_any W w' k hc f hf)
  have hB : 33 ≤ 128 := by omega
  have HPR := hidden (fun (a : Ad) (d : DrawA f a) (n : Int) (hn : 0 ≤ n ∧ n ≤ bitsF a.f) => prefix_any a d.fit d.ok n hn)
  have HBI : Hid (∀ (a : Ad), DrawA f a → 32 ≤ bitsF a.f) := hidden (fun a d => by unfold bitsF; split <;> omega)
  clear h
  have HF := hidden hf
  clear hf
  go_enter Tryd.func110, Tryd.ntmps110
  go_upto_region 2 with (go_at_call 28; (with_reducible refine (next_any W _ k ?_ _ ?_).mono ?_); exact H0.out.cod; omega; rintro e w1 ⟨r, rfl, r0, r1, hc, hg⟩; have H1 := hidden (H0.out.grown hk hc hg); clear hc hg H0)
  have hr : r = 0 ∨ r = 1 ∨ ((r == 0) = false ∧ (r == 1) = false) := by simp; omega
  rcases hr with rfl | rfl | ⟨k1, k2⟩
  · go_wp2_with (go_at_call 121; (with_reducible refine (HAL.out _).mono ?_); rintro e w2 ⟨lo, hi, rfl, hra, hb⟩; have HRA := hidden hra; have H2 := hidden (H1.out.below hb); obtain ⟨p0, p1, p2, pf⟩ := H2.out.R; obtain ⟨s0, s1, s2, sf⟩ := H2.out.S; clear hra hb H1)
    obtain ⟨z1, z2, z3, z4, z5⟩ := put_two0 (B := w.heap.size) (x := lo) (y := hi) H2.out.R H2.out.S (by omega) (by omega) (by omega)
    refine ret_ad2 (g1 := w.heap.size) (g2 := w.heap.size + 1) (x := lo) (y := hi) rfl rfl rfl rfl z1 z2 ?_
    exact ⟨lo, hi, rfl, HRA.out, z4 W k H2.out.cod hbase hk, z5 w k rfl H2.out.gr⟩
  · go_upto_region 6 with (first
      | (go_at_call 123; (with_reducible refine (HAD.out _ H1.out.cod).mono ?_); rintro e w2 ⟨a, rfl, hda, hc, hg⟩; have HDA := hidden hda; have H2 := hidden (H1.out.grown hk hc hg); clear hda hc hg H1)
      | (go_at_call 28; (with_reducible refine (next_any W _ k ?_ _ ?_).mono ?_); exact H2.out.cod; omega; rintro e w3 ⟨r, rfl, r0, r1, hc, hg⟩; have H3 := hidden (H2.out.grown hk hc hg); clear hc hg H2)
      | (go_at_call 122; (refine (HPR.out a HDA.out _ ⟨by omega, by have := HBI.out a HDA.out; omega⟩ _).mono ?_); rintro e w4 ⟨lo, hi, rfl, hp, hb⟩; have HRA := hidden (hp.range HF.out HDA.out); have H4 := hidden (((H3.out.below hb).alloc (.cells #[.int .i64 lo.f, .int .u64 lo.h, .int .u64 lo.l] 115)).alloc (.cells #[.int .i64 hi.f, .int .u64 hi.h, .int .u64 hi.l] 115)); have hs4 := (H3.out.below hb).S.lt; clear hp hb H3)
      | fail)
    obtain ⟨p0, p1, p2, pf⟩ := H4.out.R
    obtain ⟨s0, s1, s2, sf⟩ := H4.out.S
    go_region
    all_goals go_wp2_with fail
    all_goals first
      | (obtain ⟨z1, z2, z3, z4, z5⟩ := put_two1 (B := w.heap.size) (x := lo) (y := hi) H4.out.R H4.out.S (by omega) (by omega) (by omega)
         refine ret_ad2 (g1 := w.heap.size) (g2 := w.heap.size + 1) (x := lo) (y := hi) rfl rfl rfl rfl z1 z2 ?_
         exact ⟨lo, hi, rfl, HRA.out, z4 W k H4.out.cod hbase hk, z5 w k rfl H4.out.gr⟩)
      | (obtain ⟨z1, z2, z3, z4, z5⟩ := put_two2 (B := w.heap.size) (x := lo) (y := hi) H4.out.R H4.out.S (by omega) (by omega) (by omega)
         refine ret_ad2 (g1 := w.heap.size) (g2 := w.heap.size + 1) (x := lo) (y := hi) rfl rfl rfl rfl z1 z2 ?_
         exact ⟨lo, hi, rfl, HRA.out, z4 W k H4.out.cod hbase hk, z5 w k rfl H4.out.gr⟩)
      | fail
  · go_upto_region 8 with (first
      | (go_at_call 123; (with_reducible refine (HAD.out _ H1.out.cod).mono ?_); rintro e w2 ⟨a, rfl, hda, hc, hg⟩; have HDA := hidden hda; have H2 := hidden (H1.out.grown hk hc hg); clear hda hc hg H1)
      | (go_at_call 123; (with_reducible refine (HAD.out _ H2.out.cod).mono ?_); rintro e w3 ⟨b, rfl, hdb, hc, hg⟩; have HDB := hidden hdb; have H3 := hidden (((H2.out.grown hk hc hg).alloc (.cells #[.int .i64 a.f, .int .u64 a.h, .int .u64 a.l] 115)).alloc (.cells #[.int .i64 b.f, .int .u64 b.h, .int .u64 b.l] 115)); have hs3 := (H2.out.grown hk hc hg).S.lt; clear hdb hc hg H2)
      | fail)
    obtain ⟨p0, p1, p2, pf⟩ := H3.out.R
    obtain ⟨s0, s1, s2, sf⟩ := H3.out.S
    have hsw : (b.h < a.h ∧ True) ∨ (¬ b.h < a.h ∧ (a.h == b.h) = true ∧ b.l < a.l) ∨ (¬ b.h < a.h ∧ (a.h == b.h) = true ∧ ¬ b.l < a.l) ∨ (¬ b.h < a.h ∧ (a.h == b.h) = false) := by simp; omega
    rcases hsw with ⟨q1, -⟩ | ⟨q1, q2, q3⟩ | ⟨q1, q2, q3⟩ | ⟨q1, q2⟩
    · have HRA := hidden (RangeA.mk HDB.out HDA.out (key_fam HDB.out HDA.out (by omega)))
      go_upto_region 9 with fail
      go_region
      all_goals go_wp2_with fail
      all_goals first
        | (obtain ⟨z1, z2, z3, z4, z5⟩ := put_two1 (B := w.heap.size) (x := b) (y := a) H3.out.R H3.out.S (by omega) (by omega) (by omega)
           refine ret_ad2 (g1 := w.heap.size) (g2 := w.heap.size + 1) (x := b) (y := a) rfl rfl rfl rfl z1 z2 ?_
           exact ⟨b, a, rfl, HRA.out, z4 W k H3.out.cod hbase hk, z5 w k rfl H3.out.gr⟩)
        | (obtain ⟨z1, z2, z3, z4, z5⟩ := put_two2 (B := w.heap.size) (x := b) (y := a) H3.out.R H3.out.S (by omega) (by omega) (by omega)
           refine ret_ad2 (g1 := w.heap.size) (g2 := w.heap.size + 1) (x := b) (y := a) rfl rfl rfl rfl z1 z2 ?_
           exact ⟨b, a, rfl, HRA.out, z4 W k H3.out.cod hbase hk, z5 w k rfl H3.out.gr⟩)
        | fail
    · have HRA := hidden (RangeA.mk HDB.out HDA.out (key_fam HDB.out HDA.out (by simp at q2; omega)))
      go_upto_region 9 with fail
      go_region
      all_goals go_wp2_with fail
      all_goals first
        | (obtain ⟨z1, z2, z3, z4, z5⟩ := put_two1 (B := w.heap.size) (x := b) (y := a) H3.out.R H3.out.S (by omega) (by omega) (by omega)
           refine ret_ad2 (g1 := w.heap.size) (g2 := w.heap.size + 1) (x := b) (y := a) rfl rfl rfl rfl z1 z2 ?_
           exact ⟨b, a, rfl, HRA.out, z4 W k H3.out.cod hbase hk, z5 w k rfl H3.out.gr⟩)
        | (obtain ⟨z1, z2, z3, z4, z5⟩ := put_two2 (B := w.heap.size) (x := b) (y := a) H3.out.R H3.out.S (by omega) (by omega) (by omega)
           refine ret_ad2 (g1 := w.heap.size) (g2 := w.heap.size + 1) (x := b) (y := a) rfl rfl rfl rfl z1 z2 ?_
           exact ⟨b, a, rfl, HRA.out, z4 W k H3.out.cod hbase hk, z5 w k rfl H3.out.gr⟩)
        | fail
    · have HRA := hidden (RangeA.mk HDA.out HDB.out (key_fam HDA.out HDB.out (by simp at q2; omega)))
      go_upto_region 10 with fail
      go_region
      all_goals go_wp2_with fail
      all_goals first
        | (obtain ⟨z1, z2, z3, z4, z5⟩ := put_two1 (B := w.heap.size) (x := a) (y := b) H3.out.R H3.out.S (by omega) (by omega) (by omega)
           refine ret_ad2 (g1 := w.heap.size) (g2 := w.heap.size + 1) (x := a) (y := b) rfl rfl rfl rfl z1 z2 ?_
           exact ⟨a, b, rfl, HRA.out, z4 W k H3.out.cod hbase hk, z5 w k rfl H3.out.gr⟩)
        | (obtain ⟨z1, z2, z3, z4, z5⟩ := put_two2 (B := w.heap.size) (x := a) (y := b) H3.out.R H3.out.S (by omega) (by omega) (by omega)
           refine ret_ad2 (g1 := w.heap.size) (g2 := w.heap.size + 1) (x := a) (y := b) rfl rfl rfl rfl z1 z2 ?_
           exact ⟨a, b, rfl, HRA.out, z4 W k H3.out.cod hbase hk, z5 w k rfl H3.out.gr⟩)
        | fail
    · have HRA := hidden (RangeA.mk HDA.out HDB.out (key_fam HDA.out HDB.out (by simp at q2; omega)))
      go_upto_region 10 with fail
      go_region
      all_goals go_wp2_with fail
      all_goals first
        | (obtain ⟨z1, z2, z3, z4, z5⟩ := put_two1 (B := w.heap.size) (x := a) (y := b) H3.out.R H3.out.S (by omega) (by omega) (by omega)
           refine ret_ad2 (g1 := w.heap.size) (g2 := w.heap.size + 1) (x := a) (y := b) rfl rfl rfl rfl z1 z2 ?_
           exact ⟨a, b, rfl, HRA.out, z4 W k H3.out.cod hbase hk, z5 w k rfl H3.out.gr⟩)
        | (obtain ⟨z1, z2, z3, z4, z5⟩ := put_two2 (B := w.heap.size) (x := a) (y := b) H3.out.R H3.out.S (by omega) (by omega) (by omega)
           refine ret_ad2 (g1 := w.heap.size) (g2 := w.heap.size + 1) (x := a) (y := b) rfl rfl rfl rfl z1 z2 ?_
           exact ⟨a, b, rfl, HRA.out, z4 W k H3.out.cod hbase hk, z5 w k rfl H3.out.gr⟩)
        | fail
end Go.Proofs.YtpocehpejbnemaaDoor

namespace Go.Proofs.YtpocehpejbnemaaDoor
open Go.RowKit
set_option linter.unusedVariables false

/-- A selector as it is drawn. -/
structure DrawS (f : Int) (s : Sl) : Prop where
  good : GoodS s
  fam : s.lo.f = f
/-- Where Selector stands: its result, its own selector at block g. -/
structure DSl (W w wx : World) (k g : Nat) (s : Sl) : Prop where
  cod : Cod W wx k
  gr : w.grownBy wx (some k)
  ge : w.heap.size < g
  R : SlIn wx w.heap.size zeroS
  S : SlIn wx g s
section
variable {W w wx wy : World} {k g : Nat} {s : Sl}
theorem DSl.grown (h : DSl W w wx k g s) (hk : k < w.heap.size) (hc : Cod W wy k) (hg : wx.grownBy wy (some k)) : DSl W w wy k g s :=
  ⟨hc, grown_trans h.gr hg, h.ge, h.R.grown hg (by simp; omega), h.S.grown hg (by have := h.ge; simp; omega)⟩
theorem DSl.alloc (h : DSl W w wx k g s) (o : Obj) : DSl W w (wx.alloc o) k g s := ⟨h.cod.alloc o, grown_alloc_new h.gr o, h.ge, h.R.alloc o, h.S.alloc o⟩
theorem DSl.setA (h : DSl W w wx k g s) (hb : W.heap.size ≤ w.heap.size) (hk : k < w.heap.size) (z : Int) : DSl W w (wx.setCell ⟨g, 1, none⟩ (.int .i64 z)) k g { s with a := z } := by
  have := h.ge
  exact ⟨h.cod.set _ _ _ (by omega) (by omega), grown_set_new h.gr _ _ _ (by omega), h.ge, h.R.set_ne _ _ _ (by omega), h.S.setA z⟩
theorem DSl.setB (h : DSl W w wx k g s) (hb : W.heap.size ≤ w.heap.size) (hk : k < w.heap.size) (z : Int) : DSl W w (wx.setCell ⟨g, 2, none⟩ (.int .i64 z)) k g { s with b := z } := by
  have := h.ge
  exact ⟨h.cod.set _ _ _ (by omega) (by omega), grown_set_new h.gr _ _ _ (by omega), h.ge, h.R.set_ne _ _ _ (by omega), h.S.setB z⟩
theorem DSl.setLo (h : DSl W w wx k g s) (hb : W.heap.size ≤ w.heap.size) (hk : k < w.heap.size) (z : Ad) : DSl W w (((wx.setCell ⟨g, 3, none⟩ (.int .i64 z.f)).setCell ⟨g, 4, none⟩ (.int .u64 z.h)).setCell ⟨g, 5, none⟩ (.int .u64 z.l)) k g { s with lo := z } := by
  have := h.ge
  exact ⟨((h.cod.set _ _ _ (by omega) (by omega)).set _ _ _ (by omega) (by omega)).set _ _ _ (by omega) (by omega), grown_set_new (grown_set_new (grown_set_new h.gr _ _ _ (by omega)) _ _ _ (by omega)) _ _ _ (by omega), h.ge, ((h.R.set_ne _ _ _ (by omega)).set_ne _ _ _ (by omega)).set_ne _ _ _ (by omega), h.S.setLo z⟩
theorem DSl.setHi (h : DSl W w wx k g s) (hb : W.heap.size ≤ w.heap.size) (hk : k < w.heap.size) (z : Ad) : DSl W w (((wx.setCell ⟨g, 6, none⟩ (.int .i64 z.f)).setCell ⟨g, 7, none⟩ (.int .u64 z.h)).setCell ⟨g, 8, none⟩ (.int .u64 z.l)) k g { s with hi := z } := by
  have := h.ge
  exact ⟨((h.cod.set _ _ _ (by omega) (by omega)).set _ _ _ (by omega) (by omega)).set _ _ _ (by omega) (by omega), grown_set_new (grown_set_new (grown_set_new h.gr _ _ _ (by omega)) _ _ _ (by omega)) _ _ _ (by omega), h.ge, ((h.R.set_ne _ _ _ (by omega)).set_ne _ _ _ (by omega)).set_ne _ _ _ (by omega), h.S.setHi z⟩
theorem DSl.ret (h : DSl W w wx k g s) (hb : W.heap.size ≤ w.heap.size) (hk : k < w.heap.size) : SlIn (((((((((wx.setCell ⟨w.heap.size, 0, none⟩ (.int .i64 s.p)).setCell ⟨w.heap.size, 1, none⟩ (.int .i64 s.a)).setCell ⟨w.heap.size, 2, none⟩ (.int .i64 s.b)).setCell ⟨w.heap.size, 3, none⟩ (.int .i64 s.lo.f)).setCell ⟨w.heap.size, 4, none⟩ (.int .u64 s.lo.h)).setCell ⟨w.heap.size, 5, none⟩ (.int .u64 s.lo.l)).setCell ⟨w.heap.size, 6, none⟩ (.int .i64 s.hi.f)).setCell ⟨w.heap.size, 7, none⟩ (.int .u64 s.hi.h)).setCell ⟨w.heap.size, 8, none⟩ (.int .u64 s.hi.l)) w.heap.size s ∧ Cod W (((((((((wx.setCell ⟨w.heap.size, 0, none⟩ (.int .i64 s.p)).setCell ⟨w.heap.size, 1, none⟩ (.int .i64 s.a)).setCell ⟨w.heap.size, 2, none⟩ (.int .i64 s.b)).setCell ⟨w.heap.size, 3, none⟩ (.int .i64 s.lo.f)).setCell ⟨w.heap.size, 4, none⟩ (.int .u64 s.lo.h)).setCell ⟨w.heap.size, 5, none⟩ (.int .u64 s.lo.l)).setCell ⟨w.heap.size, 6, none⟩ (.int .i64 s.hi.f)).setCell ⟨w.heap.size, 7, none⟩ (.int .u64 s.hi.h)).setCell ⟨w.heap.size, 8, none⟩ (.int .u64 s.hi.l)) k ∧ w.grownBy (((((((((wx.setCell ⟨w.heap.size, 0, none⟩ (.int .i64 s.p)).setCell ⟨w.heap.size, 1, none⟩ (.int .i64 s.a)).setCell ⟨w.heap.size, 2, none⟩ (.int .i64 s.b)).setCell ⟨w.heap.size, 3, none⟩ (.int .i64 s.lo.f)).setCell ⟨w.heap.size, 4, none⟩ (.int .u64 s.lo.h)).setCell ⟨w.heap.size, 5, none⟩ (.int .u64 s.lo.l)).setCell ⟨w.heap.size, 6, none⟩ (.int .i64 s.hi.f)).setCell ⟨w.heap.size, 7, none⟩ (.int .u64 s.hi.h)).setCell ⟨w.heap.size, 8, none⟩ (.int .u64 s.hi.l)) (some k) :=
  ⟨h.R.setAll s, (((((((((h.cod.set _ _ _ (by omega) (by omega)).set _ _ _ (by omega) (by omega)).set _ _ _ (by omega) (by omega)).set _ _ _ (by omega) (by omega)).set _ _ _ (by omega) (by omega)).set _ _ _ (by omega) (by omega)).set _ _ _ (by omega) (by omega)).set _ _ _ (by omega) (by omega)).set _ _ _ (by omega) (by omega)), (grown_set_new (grown_set_new (grown_set_new (grown_set_new (grown_set_new (grown_set_new (grown_set_new (grown_set_new (grown_set_new h.gr _ _ _ (by omega)) _ _ _ (by omega)) _ _ _ (by omega)) _ _ _ (by omega)) _ _ _ (by omega)) _ _ _ (by omega)) _ _ _ (by omega)) _ _ _ (by omega)) _ _ _ (by omega))⟩
end
theorem pr5 (j : Nat) (hj : j < 5) : ∃ t : Int, (#[Value.int .i64 0, .int .i64 0, .int .i64 6, .int .i64 17, .int .i64 1] : Array Value)[j]? = some (.int .i64 t) ∧ ([Value.int .i64 0, .int .i64 0, .int .i64 6, .int .i64 17, .int .i64 1] : List Value)[j]? = some (.int .i64 t) ∧ 0 ≤ t ∧ t ≤ 255 := by
  have : j = 0 ∨ j = 1 ∨ j = 2 ∨ j = 3 ∨ j = 4 := by omega
  rcases this with rfl | rfl | rfl | rfl | rfl
  all_goals exact ⟨_, rfl, rfl, by omega, by omega⟩
theorem po5 (j : Nat) (hj : j < 5) : ∃ t : Int, (#[Value.int .i64 0, .int .i64 80, .int .i64 443, .int .i64 65530, .int .i64 1] : Array Value)[j]? = some (.int .i64 t) ∧ ([Value.int .i64 0, .int .i64 80, .int .i64 443, .int .i64 65530, .int .i64 1] : List Value)[j]? = some (.int .i64 t) ∧ 0 ≤ t ∧ t ≤ 65530 := by
  have : j = 0 ∨ j = 1 ∨ j = 2 ∨ j = 3 ∨ j = 4 := by omega
  rcases this with rfl | rfl | rfl | rfl | rfl
  all_goals exact ⟨_, rfl, rfl, by omega, by omega⟩
theorem RangeA.sel {f : Int} {lo hi : Ad} (h : RangeA f lo hi) (p a b : Int) (hp : 0 ≤ p ∧ p ≤ 255) (hq : (a = 65535 ∧ b = 0) ∨ (0 ≤ a ∧ a ≤ b ∧ b ≤ 65535)) : DrawS f ⟨p, a, b, lo, hi⟩ :=
  ⟨⟨h.dlo.fit, h.dhi.fit, h.dlo.ok, h.dhi.ok, h.dlo.fam.trans h.dhi.fam.symm, h.le, hp, hq⟩, h.dlo.fam⟩

/-- What Selector returns. -/
def MadeS (W w : World) (k : Nat) (f : Int) (e : Ending) (w' : World) : Prop := ∃ s : Sl, e = .returned (.agg #[.int .i64 s.p, .int .i64 s.a, .int .i64 s.b, .int .i64 s.lo.f, .int .u64 s.lo.h, .int .u64 s.lo.l, .int .i64 s.hi.f, .int .u64 s.hi.h, .int .u64 s.hi.l]) ∧ DrawS f s ∧ Cod W w' k ∧ w.grownBy w' (some k)

set_option maxHeartbeats 3200000 in
set_option maxRecDepth 100000 in
theorem sel_any (W w : World) (k : Nat) (h : Cod W w k) (f : Int) (hf : f = 4 ∨ f = 6) :
    Calls Tryd.prog 88 #[.pointer (some ⟨k, 0, none⟩), .int .i64 f] w (MadeS W w k f) := by
  have hk := h.lt
  have hbase := h.bel.size
  have HC0 := hidden ((h.alloc (.cells #[.int .i64 0, .int .i64 0, .int .i64 0, .int .i64 0, .int .u64 0, .int .u64 0, .int .i64 0, .int .u64 0, .int .u64 0] 117)).alloc (.cells ([Value.int .i64 0, .int .i64 0, .int .i64 6, .int .i64 17, .int .i64 1] : List Value).toArray 3))
  have HR0 := hidden ((SlIn.new w zeroS 117).alloc (.cells ([Value.int .i64 0, .int .i64 0, .int .i64 6, .int .i64 17, .int .i64 1] : List Value).toArray 3))
  have HSP := hidden (fun w' (hc : Cod W w' k) => span_any W w' k hc f hf)
  clear h
  go_enter Tryd.func88, Tryd.ntmps88
  go_upto_region 4 with (first
    | (go_at_call_of 28 (Value.int IntKind.i64 5); (with_reducible refine (next_any W _ k HC0.out _ ?_).mono ?_); omega; rintro e w1 ⟨j, rfl, j0, j1, hc, hg⟩; obtain ⟨j, rfl⟩ := Int.eq_ofNat_of_zero_le j0; obtain ⟨p, hta, htl, p0, p1⟩ := pr5 j (by omega); have hcI : w1.cell? ⟨w.heap.size + 1, j, none⟩ = some (.int .i64 p) := (by have := row_cell _ w1 k _ _ j _ htl (by simp; omega) hg; simpa using this); have H1 := hidden (show DSl W w (w1.alloc (.cells #[.int .i64 p, .int .i64 0, .int .i64 65535, .int .i64 0, .int .u64 0, .int .u64 0, .int .i64 0, .int .u64 0, .int .u64 0] 117)) k w1.heap.size ⟨p, 0, 65535, zeroA, zeroA⟩ from ⟨hc.alloc _, grown_alloc_new (grown_trans (grown_alloc_new (World.grownBy_alloc w _ _) _) hg) _, by have := hg.size; simp at this; omega, (HR0.out.grown hg (by simp; omega)).alloc _, SlIn.new w1 ⟨p, 0, 65535, zeroA, zeroA⟩ _⟩); clear hc hg HC0 HR0)
    | (go_at_call 110; (with_reducible refine (HSP.out _ H1.out.cod).mono ?_); rintro e w2 ⟨lo, hi, rfl, hra, hc, hg⟩; have HRA := hidden hra; have H2 := hidden (H1.out.grown hk hc hg); obtain ⟨s0, s1, s2, s3, s4, s5, s6, s7, s8, sf⟩ := H2.out.S; have H3 := hidden ((H2.out.setLo hbase hk lo).setHi hbase hk hi); clear hra hc hg H1 H2)
    | (go_at_call_of 28 (Value.int IntKind.i64 5); (with_reducible refine (next_any W _ k H3.out.cod _ ?_).mono ?_); omega; rintro e w3 ⟨r, rfl, r0, r1, hc, hg⟩; have H4 := hidden (H3.out.grown hk hc hg); clear hc hg H3)
    | fail)
  generalize w1.heap.size = g at *
  have hg0 := H4.out.ge
  have hr : r = 0 ∨ (r = 1 ∨ r = 2) ∨ ((r == 0) = false ∧ (r == 1) = false ∧ (r == 2) = false) := by simp; omega
  rcases hr with rfl | hr | ⟨k1, k2, k3⟩
  · obtain ⟨s0, s1, s2, s3, s4, s5, s6, s7, s8, sf⟩ := H4.out.S
    obtain ⟨q0, q1, q2, q3, q4, q5, q6, q7, q8, qf⟩ := H4.out.R
    have H5 := hidden ((H4.out.setA hbase hk 65535).setB hbase hk 0)
    have n1 : ¬ w.heap.size = g := by omega
    have n2 : ¬ g = w.heap.size := by omega
    go_wp2
    obtain ⟨z1, z2, z3⟩ := H5.out.ret hbase hk
    refine ret_sl (g := w.heap.size) (s := ⟨p, 65535, 0, lo, hi⟩) rfl rfl rfl z1 ?_
    exact ⟨_, rfl, HRA.out.sel p 65535 0 ⟨p0, p1⟩ (Or.inl ⟨rfl, rfl⟩), z2, z3⟩
  · rcases hr with rfl | rfl
    all_goals
      have HC5 := hidden (H4.out.cod.alloc (.cells ([Value.int .i64 0, .int .i64 80, .int .i64 443, .int .i64 65530, .int .i64 1] : List Value).toArray 3))
      go_wp2_with (first
        | (go_at_call_of 28 (Value.int IntKind.i64 5); (with_reducible refine (next_any W _ k HC5.out _ ?_).mono ?_); omega; rintro e w4 ⟨j, rfl, j0, j1, hc, hg⟩; obtain ⟨j, rfl⟩ := Int.eq_ofNat_of_zero_le j0; obtain ⟨t, hta, htl, t0, t1⟩ := po5 j (by omega); have hcI := row_cell _ w4 k _ _ j _ htl H4.out.cod.lt hg; have H5 := hidden ((H4.out.alloc _).grown hk hc hg); clear hc hg HC5)
        | (go_at_call_of 28 (Value.int IntKind.i64 6); (with_reducible refine (next_any W _ k H5.out.cod _ ?_).mono ?_); omega; rintro e w5 ⟨v, rfl, v0, v1, hc, hg⟩; have H6 := hidden (H5.out.grown hk hc hg); obtain ⟨s0, s1, s2, s3, s4, s5, s6, s7, s8, sf⟩ := H6.out.S; obtain ⟨q0, q1, q2, q3, q4, q5, q6, q7, q8, qf⟩ := H6.out.R; have n1 : ¬ w.heap.size = g := (by omega); have n2 : ¬ g = w.heap.size := (by omega); clear hc hg H5 hcI)
        | fail)
      all_goals first
        | (have hq : t + v < 65535 := by omega
           obtain ⟨z1, z2, z3⟩ := ((H6.out.setA hbase hk t).setB hbase hk (t + v)).ret hbase hk
           refine ret_sl (g := w.heap.size) (s := ⟨p, t, t + v, lo, hi⟩) rfl rfl rfl z1 ?_
           exact ⟨_, rfl, HRA.out.sel p t (t + v) ⟨p0, p1⟩ (Or.inr ⟨by omega, by omega, by omega⟩), z2, z3⟩)
        | (have hq : 65535 ≤ t + v := by omega
           obtain ⟨z1, z2, z3⟩ := ((H6.out.setA hbase hk t).setB hbase hk (65535)).ret hbase hk
           refine ret_sl (g := w.heap.size) (s := ⟨p, t, 65535, lo, hi⟩) rfl rfl rfl z1 ?_
           exact ⟨_, rfl, HRA.out.sel p t (65535) ⟨p0, p1⟩ (Or.inr ⟨by omega, by omega, by omega⟩), z2, z3⟩)
        | fail
  · obtain ⟨s0, s1, s2, s3, s4, s5, s6, s7, s8, sf⟩ := H4.out.S
    obtain ⟨q0, q1, q2, q3, q4, q5, q6, q7, q8, qf⟩ := H4.out.R
    have n1 : ¬ w.heap.size = g := by omega
    have n2 : ¬ g = w.heap.size := by omega
    go_wp2
    obtain ⟨z1, z2, z3⟩ := H4.out.ret hbase hk
    refine ret_sl (g := w.heap.size) (s := ⟨p, 0, 65535, lo, hi⟩) rfl rfl rfl z1 ?_
    exact ⟨_, rfl, HRA.out.sel p 0 65535 ⟨p0, p1⟩ (Or.inr ⟨by omega, by omega, by omega⟩), z2, z3⟩
end Go.Proofs.YtpocehpejbnemaaDoor

namespace Go.Proofs.YtpocehpejbnemaaDoor
open Go.RowKit
set_option linter.unusedVariables false

/-- Selectors: nine numbers. -/
def KSl : KindR Sl where
  e := 117
  k := 9
  cs x := [.int .i64 x.p, .int .i64 x.a, .int .i64 x.b, .int .i64 x.lo.f, .int .u64 x.lo.h, .int .u64 x.lo.l, .int .i64 x.hi.f, .int .u64 x.hi.h, .int .u64 x.hi.l]
  len _ := rfl
  one x u hu := by
    simp at hu
    rcases hu with rfl | rfl | rfl | rfl | rfl | rfl | rfl | rfl | rfl <;> rfl
  pos := by decide
def NSl : NestR Sl where
  ts := []
  ok _ _ x := FitS x
  keep h _ _ := h
  mono h _ := h
def DSlr : ReadN Sl where
  ok _ x := FitS x
  keep h _ := h
theorem Tryd.infoSl : (Tryd.prog.info? 117).map (fun i => (i.zero, i.size, i.bytes)) = some (some (.agg #[.int .i64 0, .int .i64 0, .int .i64 0, .int .i64 0, .int .u64 0, .int .u64 0, .int .i64 0, .int .u64 0, .int .u64 0]), 9, 72) := by kernel_rfl
theorem knownSl : KnownR Tryd.prog KSl 38 72 := by
  refine ⟨Tryd.underlying38, ?_⟩
  obtain ⟨i0, hi, hz0, hz1, hz2⟩ := info_parts Tryd.infoSl
  exact ⟨i0, _, hi, hz0, hz1, hz2, rfl⟩
/-- One element that was just laid out. -/
theorem srcSl (w : World) (x : Sl) (T : TypeId) : SrcG KSl (w.alloc (.cells #[.int .i64 x.p, .int .i64 x.a, .int .i64 x.b, .int .i64 x.lo.f, .int .u64 x.lo.h, .int .u64 x.lo.l, .int .i64 x.hi.f, .int .u64 x.hi.h, .int .u64 x.hi.l] T)) (some ⟨w.heap.size, 0, none⟩) 1 [x] := SrcG.new KSl w [x] T
theorem fam_fits {f : Int} {s : Sl} (h : DrawS f s) : FitS s := h.good.fit

/-- Where Selectors stands. -/
structure DLs (W w wx : World) (k : Nat) (f : Int) (v : Value) (l : List Sl) : Prop where
  cod : Cod W wx k
  gr : w.grownBy wx (some k)
  row : RowG KSl NSl wx w.heap.size v l
  all : ∀ s ∈ l, DrawS f s
/-- What Selectors returns. -/
def MadeL (W w : World) (k most : Nat) (e : Ending) (w' : World) : Prop := ∃ (v : Value) (l : List Sl) (f : Int), e = .returned v ∧ (f = 4 ∨ f = 6) ∧ 1 ≤ l.length ∧ l.length ≤ most ∧ DLs W w w' k f v l

set_option maxHeartbeats 1600000 in
set_option maxRecDepth 100000 in
theorem sels_any (W w : World) (k : Nat) (h : Cod W w k) (most : Nat) (hm1 : 1 ≤ most) (hm2 : most ≤ 256) :
    Calls Tryd.prog 55 #[.pointer (some ⟨k, 0, none⟩), .int .i64 most] w (MadeL W w k most) := by
  have hk := h.lt
  have hbase := h.bel.size
  have HC0 := hidden h
  clear h
  go_enter Tryd.func55, Tryd.ntmps55
  go_upto_if 10 with (first
    | (go_at_call_of 28 (Value.int IntKind.i64 4); (with_reducible refine (next_any W _ k HC0.out _ ?_).mono ?_); omega; rintro e w1 ⟨r, rfl, r0, r1, hc, hg⟩; have HC1 := hidden hc; have HG1 := hidden hg; clear hc hg HC0)
    | fail)
  go_cut [5] from 8 to 10 (fun fv wx => ∃ f : Int, fv = .int .i64 f ∧ (f = 4 ∨ f = 6) ∧ w1 = wx)
  case first =>
    rcases hr : (r == 3) with _ | _
    · go_wp2
      go_meet
      case rel => exact ⟨4, rfl, Or.inl rfl, rfl⟩
    · go_wp2
      go_meet
      case rel => exact ⟨6, rfl, Or.inr rfl, rfl⟩
  case rest =>
    obtain ⟨f, rfl, hf, rfl⟩ := hcut
    have HSE := hidden (fun w' (hc : Cod W w' k) => sel_any W w' k hc f hf)
    go_upto_region 6 with (first
      | (go_at_call 28; (with_reducible refine (next_any W _ k HC1.out _ ?_).mono ?_); omega; rintro e w2 ⟨N, rfl, N0, N1, hc, hg⟩; have HC2 := hidden hc; have HG2 := hidden (grown_trans HG1.out hg); clear hc hg HC1 HG1)
      | fail)
    obtain ⟨N, rfl⟩ := Int.eq_ofNat_of_zero_le N0
    go_wp2_with fail
    go_loopw [6, 7] (fun v i wx => ∃ (j : Nat) (l : List Sl), i = .int .i64 j ∧ l.length + j = 1 + N ∧ DLs W w wx k f v l) (fun _ i _ => (intOf i).toNat)
    case atStart => exact ⟨1 + N, [], by simp, by simp, ⟨HC2.out, HG2.out, RowG.nil _ _ _ _, fun s hs => by cases hs⟩⟩
    case round =>
      obtain ⟨j, l, rfl, hj, hdl⟩ := hrel
      obtain ⟨po, co, rfl⟩ := hdl.row.form rfl
      have HD := hidden hdl
      clear hdl HC2 HG2
      by_cases h0 : j = 0
      · subst h0
        go_wp2
        go_ret
        exact ⟨_, l, f, rfl, hf, by omega, by omega, HD.out⟩
      · have hj0 : (0 : Int) < j := by omega
        go_wp2_with (first
          | (go_at_call 88; (with_reducible refine (HSE.out _ HD.out.cod).mono ?_); rintro e w3 ⟨s, rfl, hs, hc, hg⟩; have HS := hidden hs; have HC3 := hidden (hc.alloc (.cells #[.int .i64 s.p, .int .i64 s.a, .int .i64 s.b, .int .i64 s.lo.f, .int .u64 s.lo.h, .int .u64 s.lo.l, .int .i64 s.hi.f, .int .u64 s.hi.h, .int .u64 s.hi.l] 117)); have HG3 := hidden (grown_alloc_new (grown_trans HD.out.gr hg) (.cells #[.int .i64 s.p, .int .i64 s.a, .int .i64 s.b, .int .i64 s.lo.f, .int .u64 s.lo.h, .int .u64 s.lo.l, .int .i64 s.hi.f, .int .u64 s.hi.h, .int .u64 s.hi.l] 117)); have HR3 : Hid (RowG KSl NSl (w3.alloc (.cells #[.int .i64 s.p, .int .i64 s.a, .int .i64 s.b, .int .i64 s.lo.f, .int .u64 s.lo.h, .int .u64 s.lo.l, .int .i64 s.hi.f, .int .u64 s.hi.h, .int .u64 s.hi.l] 117)) w.heap.size (.slice po l.length co) l) := hidden ((HD.out.row.low hg hk).alloc _); clear hs hc hg)
          | (at_builtin; go_loud (refine wpList_append_g knownSl (by simp [NSl]) _ rfl _ _ rfl w.heap.size _ l rfl HR3.out _ 1 1 [s] rfl (srcSl w3 s _) (fun x hx => by rw [List.mem_singleton.1 hx]; exact fam_fits HS.out) (by unfold maxLen; omega) (by omega) (by have := HG3.out.size; simp at this ⊢; omega) ?_))
          | fail)
        intro v' w4 hr4 hg4
        have hlt := HR3.out.lt
        have HC4 := hidden (HC3.out.grown hg4 (by intro e; have := hlt k e.symm; omega) (fun j hj => by have := (hlt j hj).1; omega))
        have HG4 := hidden (grown_own HG3.out hg4 (fun j hj => (hlt j hj).1))
        have HR4 := hidden hr4
        clear hr4 hg4 hlt HR3 HC3 HG3
        go_wp2
        go_roundw
        case rel => exact ⟨j - 1, l ++ [s], by go_num, by simp; omega, ⟨HC4.out, HG4.out, HR4.out, fun t ht => by
          rcases List.mem_append.1 ht with ht | ht
          · exact HD.out.all t ht
          · rw [List.mem_singleton.1 ht]; exact HS.out⟩⟩
        case measure => simp [intOf]; omega
end Go.Proofs.YtpocehpejbnemaaDoor
