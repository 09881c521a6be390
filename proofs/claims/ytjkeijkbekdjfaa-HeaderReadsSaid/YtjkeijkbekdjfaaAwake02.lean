/-
  The chapter's example holds: awake returns true and only adds memory of its own.
-/
import Derived.Test.YtjkeijkbekdjfaaRParse
import Derived.Test.YtjkeijkbekdjfaaBuild
import Derived.Test.YtjkeijkbekdjfaaGrow
namespace Go.Proofs.Ytjkeijkbekdjfaa
open Go.RowKit
set_option linter.unusedVariables false

def demo : List Int := [0, 0, 0, 0, 0, 0, 0, 1, 0, 0, 0, 0, 0, 0, 0, 0, 33, 32, 34, 8, 0, 0, 0, 0, 0, 0, 0, 28]
theorem demo_built : buildR 1 0 33 34 8 0 28 = (demo, 0) := by kernel_rfl
theorem demo_read : parseR demo = (⟨1, 0, 33, 34, 8, 0⟩, 0) := by kernel_rfl
theorem demo_spoiled : parseR (demo.set 17 48) = (Hdr.zero, 3) := by kernel_rfl
theorem demo_len : demo.length = 28 := rfl
theorem demo_rng : ∀ x ∈ demo, 0 ≤ x ∧ x ≤ 255 := by unfold demo; decide

theorem parse_val (p : Option Addr) (n c : Nat) (xs : List Int) (w : World) (h : Byt w p n c xs) (i r m x f k E : Int) (hp : parseR xs = (⟨i, r, m, x, f, k⟩, E)) :
    Calls Try.prog 13 #[.slice p n c] w fun e w' => e = .returned (.tuple #[.agg #[.int .u64 i, .int .u64 r, .int .i64 m, .int .i64 x, .int .i64 f, .int .u32 k], .int .i64 E]) ∧ Below w.heap.size w w' := by
  have := parse_any p n c xs w h
  rw [hp] at this
  exact this
theorem rparse_val (p : Option Addr) (n c : Nat) (xs : List Int) (w : World) (h : Byt w p n c xs) (i r m x f k E : Int) (hp : parseR xs = (⟨i, r, m, x, f, k⟩, E)) :
    Calls Try.prog 14 #[.slice p n c] w fun e w' => e = .returned (.tuple #[.agg #[.int .u64 i, .int .u64 r, .int .i64 m, .int .i64 x, .int .i64 f, .int .u32 k], .int .i64 E]) ∧ Below w.heap.size w w' := by
  have := rparse_any p n c xs w h
  rw [hp] at this
  exact this

set_option maxHeartbeats 800000 in
theorem awake02_any (w : World) : Calls Try.prog 7 #[] w fun e w' => e = .returned (.bool true) ∧ Below w.heap.size w w' := by
  have HB0 := hidden ((Below.refl w.heap.size w).alloc (Nat.le_refl _) (.cells #[.int .u64 1, .int .u64 0, .int .i64 33, .int .i64 34, .int .i64 8, .int .u32 0] 29))
  have HN0 := hidden (HdrIn.new w 1 0 33 34 8 0 29)
  have HBd := hidden (fun w => build_any 1 0 33 34 8 0 28 w (by omega) (by omega) (by omega) (by omega))
  rw [demo_built] at HBd
  go_enter Try.func7, Try.ntmps7
  go_wp2_with (go_at_call 17; (with_reducible refine (HBd.out _).mono ?_))
  rintro e w1 ⟨p, n, c, rfl, hy, ho, hb⟩
  obtain rfl : n = 28 := hy.len.symm
  have HB1 := hidden (HB0.out.trans (hb.mono HB0.out.size))
  have HN1 := hidden (HN0.out.below hb)
  obtain ⟨g, c', he, hg0, hg1, hcell, hfr⟩ := ho.at_ demo_len (by omega)
  simp at he
  obtain ⟨rfl, rfl⟩ := he
  have HO1 := hidden ho
  have HY1 := hidden hy
  have hgw : w.heap.size + 1 ≤ g := by simpa using hg0
  have hcap := hy.cap
  clear hb hy ho hcell hfr hg0 HBd HB0 HN0
  have HP := hidden (fun w1 (h : Byt w1 (some ⟨g, 0, none⟩) 28 c demo) => parse_val _ _ _ _ w1 h _ _ _ _ _ _ _ demo_read)
  go_wp2_with (go_at_call 13; (with_reducible refine (HP.out _ HY1.out).mono ?_))
  rintro e w2 ⟨rfl, hb⟩
  have hw1 := HN1.out.lt
  have hs2 := hb.size
  have hx := HdrIn.new w2 1 0 33 34 8 0 29
  have hb2 := (HB1.out.trans (hb.mono HB1.out.size)).alloc (by have := HB1.out.size; omega) (.cells #[.int .u64 1, .int .u64 0, .int .i64 33, .int .i64 34, .int .i64 8, .int .u32 0] 29)
  have ho2 : Own (w2.alloc (.cells #[.int .u64 1, .int .u64 0, .int .i64 33, .int .i64 34, .int .i64 8, .int .u32 0] 29)) _ 5 _ _ := Own.alloc (World.ownsRow.kept HO1.out (grown_of_below hb none) (Or.inr (by simp [Value.ownBlock]))) _
  have hn2 := (HN1.out.below hb).alloc (.cells #[.int .u64 1, .int .u64 0, .int .i64 33, .int .i64 34, .int .i64 8, .int .u32 0] 29)
  obtain ⟨g', c'', he, _, hg2, hcell, hfr⟩ := ho2.at_ demo_len (by omega)
  simp at he
  obtain ⟨rfl, rfl⟩ := he
  have d17 := hcell 17 (by omega)
  have f17 := hfr 17
  have ho3 := ho2.set demo_len 17 48
  obtain ⟨p3, c3, he, hy3⟩ := ho3.bytN rfl (show (demo.set 17 48).length = 28 by rw [List.length_set]; rfl) (rng_set demo_rng 17 (by omega))
  simp at he
  obtain ⟨rfl, rfl⟩ := he
  have HB3 := hidden (hb2.setCell (p := ⟨g, 17, none⟩) (by simp; omega) (.int .u8 48))
  have HX3 := hidden (hx.set_ne g 17 (.int .u8 48) (by omega))
  have HN3 := hidden (hn2.set_ne g 17 (.int .u8 48) (by omega))
  have HY3 := hidden hy3
  have HP3 := hidden (fun w1 (h : Byt w1 (some ⟨g, 0, none⟩) 28 c (demo.set 17 48)) => parse_val _ _ _ _ w1 h _ _ _ _ _ _ _ demo_spoiled)
  clear hb hx hb2 ho2 hn2 hcell hfr ho3 hy3 HB1 HN1 HO1 HY1 HP
  go_wp2_with (go_at_call 13; (with_reducible refine (HP3.out _ HY3.out).mono ?_))
  rintro e w4 ⟨rfl, hb⟩
  have HB4 := hidden (HB3.out.trans (hb.mono HB3.out.size))
  have HX4 := hidden ((HX3.out.below hb).alloc (.cells #[.int .u64 0, .int .u64 0, .int .i64 0, .int .i64 0, .int .i64 0, .int .u32 0] 29))
  have HN4 := hidden ((HN3.out.below hb).alloc (.cells #[.int .u64 0, .int .u64 0, .int .i64 0, .int .i64 0, .int .i64 0, .int .u32 0] 29))
  clear hb HB3 HX3 HN3 HY3 HP3 d17 f17
  obtain ⟨k0, k1, k2, k3, k4, k5, kf⟩ := HX4.out
  obtain ⟨r0, r1, r2, r3, r4, r5, rf⟩ := HN4.out
  go_wp2
  go_ret
  exact ⟨rfl, HB4.out.alloc HB4.out.size _⟩
end Go.Proofs.Ytjkeijkbekdjfaa
