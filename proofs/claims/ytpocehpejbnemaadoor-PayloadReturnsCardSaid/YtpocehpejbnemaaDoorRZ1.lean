/-
  A list of choices: what its methods return is a number in range, and they write nothing but the list's own place.
  A list of choices: its making.
  A list of choices: an int; ints that lie in a block; growing worlds.
  What package selector's questions on addresses and selectors answer.
  A selector that lies in a block of the call's own; a range of ports there; returning them.
  What package selector's Has and Check answer.
  What the document's own questions on addresses and selectors answer.
-/
import Derived.Test.YtpocehpejbnemaaDoorRows
import Derived.Test.YtpocehpejbnemaaDoorRZ0
import Derived.Deep.QuietTactic
import Derived.BigQuiet
namespace Go.Proofs.YtpocehpejbnemaaDoor
open Go.RowKit
set_option linter.unusedVariables false

/-- The choices at block k, in a call that began at the world W. -/
structure Cod (W w : World) (k : Nat) : Prop where
  base : W.heap.size ≤ k
  bel : Below W.heap.size W w
  free : ∀ j, w.frozen? ⟨k, j, none⟩ = false
  list : ∃ p n c xs, ∃ t : Nat, Byt W p n c xs ∧ t ≤ n ∧ w.cell? ⟨k, 0, none⟩ = some (.slice p n c) ∧ w.cell? ⟨k, 1, none⟩ = some (.int .i64 t)

theorem grown_trans {a b c : World} {row : Option Nat} (h : a.grownBy b row) (k : b.grownBy c row) : a.grownBy c row :=
  ⟨k.os.trans h.os, k.tape.trans h.tape, k.output.trans h.output, Nat.le_trans h.size k.size, fun i hi hne => (k.block i (Nat.lt_of_lt_of_le hi h.size) hne).trans (h.block i hi hne)⟩
theorem grown_refl (w : World) (row : Option Nat) : w.grownBy w row := ⟨rfl, rfl, rfl, Nat.le_refl _, fun _ _ _ => rfl⟩
theorem grown_of_below {w w' : World} (h : Below w.heap.size w w') (row : Option Nat) : w.grownBy w' row := ⟨h.os, h.tape, h.output, h.size, fun i hi _ => h.block i hi⟩
theorem grown_drewN (w : World) (r : Nat) (row : Option Nat) : w.grownBy (w.drewN r) row := ⟨rfl, rfl, rfl, Nat.le_refl _, fun _ _ _ => rfl⟩
theorem grown_set (w : World) (k j : Nat) (v : Value) : w.grownBy (w.setCell ⟨k, j, none⟩ v) (some k) :=
  ⟨rfl, rfl, rfl, by simp [World.setCell], fun i hi hne => Below.heap_setCell _ _ _ _ (by simp at hne; exact hne)⟩
theorem Cod.lt {W w : World} {k : Nat} (h : Cod W w k) : k < w.heap.size := by
  obtain ⟨p, n, c, xs, t, _, _, h0, _⟩ := h.list
  exact World.block_lt_of_cell? w _ h0
/-- The choices stay while other blocks are written. -/
theorem Cod.grown {W w w' : World} {k : Nat} {row : Option Nat} (h : Cod W w k) (hg : w.grownBy w' row) (hne : some k ≠ row) (hr : ∀ j, row = some j → W.heap.size ≤ j) : Cod W w' k := by
  have hk := h.lt
  obtain ⟨p, n, c, xs, t, hb, ht, h0, h1⟩ := h.list
  exact ⟨h.base, h.bel.grown hg h.bel.size hr, fun j => (World.frozen?_of_block (a := ⟨k, j, none⟩) (hg.block k hk hne)).trans (h.free j), p, n, c, xs, t, hb, ht, hg.cell h0 hne, hg.cell h1 hne⟩
theorem Cod.below {W w w' : World} {k : Nat} (h : Cod W w k) (hb : Below w.heap.size w w') : Cod W w' k := h.grown (row := none) (grown_of_below hb none) (by simp) (by simp)

theorem left_at (k : Nat) (p : Option Addr) (n c t : Nat) (w : World) (h0 : w.cell? ⟨k, 0, none⟩ = some (.slice p n c)) (h1 : w.cell? ⟨k, 1, none⟩ = some (.int .i64 t)) (hn : n ≤ 9223372036854775807) :
    Calls Tryd.prog 56 #[.pointer (some ⟨k, 0, none⟩)] w fun e w' => e = .returned (.bool (decide (t < n))) ∧ ∃ r, w' = w.drewN r := by
  go_enter Tryd.func56, Tryd.ntmps56
  go_wp2
  go_quiet (fail)
  go_wp2
  go_ret
  refine ⟨?_, _, rfl⟩
  simp

set_option maxHeartbeats 400000 in
theorem next_any (W w : World) (k : Nat) (h : Cod W w k) (m : Int) (hm : 1 ≤ m ∧ m ≤ 9223372036854775807) :
    Calls Tryd.prog 28 #[.pointer (some ⟨k, 0, none⟩), .int .i64 m] w fun e w' => ∃ r : Int, e = .returned (.int .i64 r) ∧ 0 ≤ r ∧ r < m ∧ Cod W w' k ∧ w.grownBy w' (some k) := by
  obtain ⟨p, n, c, xs, t, hb, ht, h0, h1⟩ := h.list
  have hle := hb.le
  by_cases hlt : t < n
  · obtain ⟨b, o, rfl, hc⟩ := hb.at_ (by omega)
    have hbl := hb.lt (by omega)
    have hbase := h.base
    have hfr := h.free 1
    have hne : b ≠ k := by omega
    have hx := (cell_below h.bel _ _ (hc t hlt))
    have hr := rng_getD hb.rng t
    generalize xs.getD t 0 = x at hx hr
    have H := hidden h
    have HB := hidden hb
    have e2 : x.tmod m = x % m := Int.tmod_eq_emod_of_nonneg hr.1
    have e3 := Int.emod_nonneg x (show m ≠ 0 by omega)
    have e4 := Int.emod_lt_of_pos x (show 0 < m by omega)
    clear h hb hc
    go_enter Tryd.func28, Tryd.ntmps28
    go_wp2_with (go_at_call 56; refine (left_at k _ _ _ t _ h0 h1 (by omega)).mono ?_; rintro e w' ⟨rfl, r, rfl⟩)
    obtain ⟨w1, hw1⟩ : ∃ v, v = (w.drewN r).setCell ⟨k, 1, none⟩ (.int .i64 (t + 1)) := ⟨_, rfl⟩
    rw [← hw1]
    have g0 : w1.cell? ⟨k, 0, none⟩ = some (.slice (some ⟨b, o, none⟩) n c) := by rw [hw1]; go_simp
    have g1 : w1.cell? ⟨k, 1, none⟩ = some (.int .i64 (t + 1)) := by rw [hw1]; go_simp
    have gx : w1.cell? ⟨b, o + t, none⟩ = some (.int .u8 x) := by rw [hw1]; go_simp
    have gf : ∀ j, w1.frozen? ⟨k, j, none⟩ = false := fun j => by rw [hw1, World.frozen?_setCell]; exact H.out.free j
    have gg : w.grownBy w1 (some k) := by rw [hw1]; exact grown_trans (grown_drewN w r _) (grown_set _ k 1 _)
    have HG := hidden gg
    have HF := hidden gf
    have HW := hidden (show Cod W w1 k from ⟨hbase, H.out.bel.grown gg H.out.bel.size (by intro j hj; simp at hj; omega), gf, _, _, _, _, t + 1, HB.out, by omega, g0, g1⟩)
    clear h0 h1 hx hw1 hfr gg gf
    go_quiet (fail)
    go_wp2
    go_ret
    exact ⟨x % m, rfl, e3, e4, HW.out.below (drew_below ⟨_, rfl⟩), grown_trans HG.out (grown_drewN _ _ _)⟩
  · have H := hidden h
    clear h hb
    go_enter Tryd.func28, Tryd.ntmps28
    go_wp2_with (go_at_call 56; refine (left_at k _ _ _ t _ h0 h1 (by omega)).mono ?_; rintro e w' ⟨rfl, r, rfl⟩)
    go_ret
    exact ⟨0, rfl, by omega, by omega, H.out.below (drew_below ⟨_, rfl⟩), grown_drewN _ _ _⟩
end Go.Proofs.YtpocehpejbnemaaDoor

namespace Go.Proofs.YtpocehpejbnemaaDoor
open Go.RowKit
set_option linter.unusedVariables false

theorem Cod.alloc {W w : World} {k : Nat} (h : Cod W w k) (o : Obj) : Cod W (w.alloc o) k := h.below ((Below.refl _ _).alloc (Nat.le_refl _) o)
/-- A store into another block of the call's own. -/
theorem Cod.set {W w : World} {k : Nat} (h : Cod W w k) (g j : Nat) (v : Value) (hg : W.heap.size ≤ g) (hne : g ≠ k) : Cod W (w.setCell ⟨g, j, none⟩ v) k :=
  h.grown (grown_set w g j v) (by simp; omega) (by simp; omega)

set_option maxHeartbeats 400000 in
theorem new_any (W : World) (p : Option Addr) (n c : Nat) (xs : List Int) (w : World) (h : Byt W p n c xs) (hb : Below W.heap.size W w) (m : Nat) (hm : m ≤ 9223372036854775807) :
    Calls Tryd.prog 9 #[.slice p n c, .int .i64 m] w fun e w' => e = .returned (.pointer (some ⟨w.heap.size, 0, none⟩)) ∧ Cod W w' w.heap.size ∧ Below w.heap.size w w' := by
  have hn := h.le
  have hcap := h.cap
  have hbig := h.big
  have hs := hb.size
  unfold maxLen at hbig
  have key : ∀ (w' : World) p n c xs, Byt W p n c xs → w' = w.alloc (.cells #[.slice p n c, .int .i64 0] 70) → Cod W w' w.heap.size ∧ Below w.heap.size w w' := by
    intro w' p n c xs hx hw
    have hbb := (Below.refl w.heap.size w).alloc (Nat.le_refl _) (.cells #[.slice p n c, .int .i64 0] 70)
    subst hw
    refine ⟨⟨hs, hb.alloc hs _, fun j => by go_simp, p, n, c, xs, 0, hx, Nat.zero_le _, by go_simp, by go_simp⟩, hbb⟩
  have HK := hidden key
  have H := hidden h
  clear key h hb
  by_cases hlt : m < n
  · go_enter Tryd.func9, Tryd.ntmps9
    go_wp2
    go_ret
    exact ⟨rfl, HK.out _ _ _ _ _ (H.out.front m (by omega)) rfl⟩
  · go_enter Tryd.func9, Tryd.ntmps9
    go_wp2
    go_ret
    exact ⟨rfl, HK.out _ _ _ _ _ H.out rfl⟩
end Go.Proofs.YtpocehpejbnemaaDoor

namespace Go.Proofs.YtpocehpejbnemaaDoor
open Go.RowKit
set_option linter.unusedVariables false

theorem grown_set_new {a b : World} {row : Option Nat} (h : a.grownBy b row) (g j : Nat) (v : Value) (hg : a.heap.size ≤ g) : a.grownBy (b.setCell ⟨g, j, none⟩ v) row :=
  ⟨h.os, h.tape, h.output, by simp [World.setCell]; exact h.size, fun i hi hne => (Below.heap_setCell _ _ _ _ (by simp; omega)).trans (h.block i hi hne)⟩
theorem grown_alloc_new {a b : World} {row : Option Nat} (h : a.grownBy b row) (o : Obj) : a.grownBy (b.alloc o) row := grown_trans h (World.grownBy_alloc b o row)

theorem grown_own {a b c : World} {row row' : Option Nat} (h : a.grownBy b row) (hg : b.grownBy c row') (hr : ∀ j, row' = some j → a.heap.size ≤ j) : a.grownBy c row :=
  ⟨hg.os.trans h.os, hg.tape.trans h.tape, hg.output.trans h.output, Nat.le_trans h.size hg.size, fun i hi hne => (hg.block i (Nat.lt_of_lt_of_le hi h.size) (fun e => by have := hr i e.symm; omega)).trans (h.block i hi hne)⟩

theorem ints_at (w : World) (l : List Int) (T : TypeId) (j : Nat) (hj : j < l.length) : (w.alloc (.cells (l.map (Value.int .i64)).toArray T)).cell? ⟨w.heap.size, j, none⟩ = some (.int .i64 (l.getD j 0)) := by
  rw [World.cell?_alloc_at _ _ _ _ rfl]
  simp [List.getD_eq_getElem?_getD, List.getElem?_eq_getElem hj]

end Go.Proofs.YtpocehpejbnemaaDoor

namespace Go.Proofs.YtpocehpejbnemaaDoor
open Go.RowKit
set_option linter.unusedVariables false

theorem below_two {w : World} (o1 o2 : Obj) : Below w.heap.size w ((w.alloc o1).alloc o2) := ((Below.refl _ _).alloc (Nat.le_refl _) o1).alloc (by simp) o2
theorem below_three {w : World} (o1 o2 o3 : Obj) : Below w.heap.size w (((w.alloc o1).alloc o2).alloc o3) := (below_two o1 o2).alloc (by simp; omega) o3

theorem less_any (x y : Ad) (w : World) :
    Calls Tryd.prog 136 #[(.agg #[.int .i64 x.f, .int .u64 x.h, .int .u64 x.l]), (.agg #[.int .i64 y.f, .int .u64 y.h, .int .u64 y.l])] w fun e w' => e = .returned (.bool (ltA x y)) ∧ Below w.heap.size w w' := by
  obtain ⟨xf, xh, xl⟩ := x
  obtain ⟨yf, yh, yl⟩ := y
  by_cases h1 : xf ≠ yf
  · have e1 : (xf != yf) = true := by simpa using h1
    go_enter Tryd.func136, Tryd.ntmps136
    go_wp2
    go_ret
    exact ⟨by simp [ltA, h1], below_two _ _⟩
  obtain rfl : xf = yf := by omega
  have e1 : (xf != xf) = false := by simp
  by_cases h2 : xh ≠ yh
  · have e2 : (xh != yh) = true := by simpa using h2
    go_enter Tryd.func136, Tryd.ntmps136
    go_wp2
    go_ret
    exact ⟨by simp [ltA, h2], below_two _ _⟩
  obtain rfl : xh = yh := by omega
  have e2 : (xh != xh) = false := by simp
  go_enter Tryd.func136, Tryd.ntmps136
  go_wp2
  go_ret
  exact ⟨by simp [ltA], below_two _ _⟩

theorem sless_any (x y : Ad) (w : World) :
    Calls Tryd.prog 128 #[(.agg #[.int .i64 x.f, .int .u64 x.h, .int .u64 x.l]), (.agg #[.int .i64 y.f, .int .u64 y.h, .int .u64 y.l])] w fun e w' => e = .returned (.bool (ltA x y)) ∧ Below w.heap.size w w' := by
  have HL := hidden (less_any x y ((w.alloc (.cells #[.int .i64 x.f, .int .u64 x.h, .int .u64 x.l] 115)).alloc (.cells #[.int .i64 y.f, .int .u64 y.h, .int .u64 y.l] 115)))
  have HB := hidden (below_two (w := w) (.cells #[.int .i64 x.f, .int .u64 x.h, .int .u64 x.l] 115) (.cells #[.int .i64 y.f, .int .u64 y.h, .int .u64 y.l] 115))
  go_enter Tryd.func128, Tryd.ntmps128
  go_wp2_with (go_at_call 136; (with_reducible refine (HL.out).mono ?_))
  rintro e w1 ⟨rfl, hb⟩
  go_wp2
  go_ret
  exact ⟨rfl, HB.out.trans (hb.mono (by simp; omega))⟩

theorem valid_any (x : Ad) (w : World) :
    Calls Tryd.prog 127 #[(.agg #[.int .i64 x.f, .int .u64 x.h, .int .u64 x.l])] w fun e w' => e = .returned (.bool (validA x)) ∧ Below w.heap.size w w' := by
  go_enter Tryd.func127, Tryd.ntmps127
  go_wp2
  all_goals go_ret
  all_goals exact ⟨by simp_all [validA], (Below.refl _ _).alloc (Nat.le_refl _) _⟩

theorem arePorts_any (a b : Int) (w : World) :
    Calls Tryd.prog 129 #[.int .i64 a, .int .i64 b] w fun e w' => e = .returned (.bool (portsOk a b)) ∧ w = w' := by
  go_enter Tryd.func129, Tryd.ntmps129
  go_wp2
  all_goals go_ret
  all_goals refine ⟨?_, rfl⟩
  all_goals simp_all [portsOk]
  all_goals first | omega | (rw [Bool.eq_iff_iff]; simp; omega)

end Go.Proofs.YtpocehpejbnemaaDoor

namespace Go.Proofs.YtpocehpejbnemaaDoor
open Go.RowKit
set_option linter.unusedVariables false

/-- The selector lies at block g from its first cell on. -/
structure SlIn (w : World) (g : Nat) (s : Sl) : Prop where
  c0 : w.cell? ⟨g, 0, none⟩ = some (.int .i64 s.p)
  c1 : w.cell? ⟨g, 1, none⟩ = some (.int .i64 s.a)
  c2 : w.cell? ⟨g, 2, none⟩ = some (.int .i64 s.b)
  c3 : w.cell? ⟨g, 3, none⟩ = some (.int .i64 s.lo.f)
  c4 : w.cell? ⟨g, 4, none⟩ = some (.int .u64 s.lo.h)
  c5 : w.cell? ⟨g, 5, none⟩ = some (.int .u64 s.lo.l)
  c6 : w.cell? ⟨g, 6, none⟩ = some (.int .i64 s.hi.f)
  c7 : w.cell? ⟨g, 7, none⟩ = some (.int .u64 s.hi.h)
  c8 : w.cell? ⟨g, 8, none⟩ = some (.int .u64 s.hi.l)
  fr : ∀ j, w.frozen? ⟨g, j, none⟩ = false
theorem SlIn.lt {w : World} {g : Nat} {s : Sl} (h : SlIn w g s) : g < w.heap.size := World.block_lt_of_cell? w _ h.c0
theorem SlIn.grown {w w' : World} {g : Nat} {s : Sl} {row : Option Nat} (h : SlIn w g s) (hg : w.grownBy w' row) (hne : some g ≠ row) : SlIn w' g s :=
  ⟨hg.cell h.c0 hne, hg.cell h.c1 hne, hg.cell h.c2 hne, hg.cell h.c3 hne, hg.cell h.c4 hne, hg.cell h.c5 hne, hg.cell h.c6 hne, hg.cell h.c7 hne, hg.cell h.c8 hne, fun j => (World.frozen?_of_block (a := ⟨g, j, none⟩) (hg.block g h.lt hne)).trans (h.fr j)⟩
theorem SlIn.below {w w' : World} {g : Nat} {s : Sl} (h : SlIn w g s) (hb : Below w.heap.size w w') : SlIn w' g s := h.grown (row := none) (grown_of_below hb none) (by simp)
theorem SlIn.alloc {w : World} {g : Nat} {s : Sl} (h : SlIn w g s) (b : Obj) : SlIn (w.alloc b) g s := h.below ((Below.refl _ _).alloc (Nat.le_refl _) b)
theorem SlIn.new (w : World) (s : Sl) (T : TypeId) : SlIn (w.alloc (.cells #[.int .i64 s.p, .int .i64 s.a, .int .i64 s.b, .int .i64 s.lo.f, .int .u64 s.lo.h, .int .u64 s.lo.l, .int .i64 s.hi.f, .int .u64 s.hi.h, .int .u64 s.hi.l] T)) w.heap.size s :=
  ⟨by go_simp, by go_simp, by go_simp, by go_simp, by go_simp, by go_simp, by go_simp, by go_simp, by go_simp, fun j => by go_simp⟩
theorem SlIn.set_ne {w : World} {g : Nat} {s : Sl} (h : SlIn w g s) (g' j : Nat) (v : Value) (hne : g ≠ g') : SlIn (w.setCell ⟨g', j, none⟩ v) g s :=
  h.grown (grown_set w g' j v) (by simp; exact hne)
section
variable {w : World} {g : Nat} {s : Sl}
theorem SlIn.setP (h : SlIn w g s) (z : Int) : SlIn (w.setCell ⟨g, 0, none⟩ (.int .i64 z)) g { s with p := z } := by
  obtain ⟨c0, c1, c2, c3, c4, c5, c6, c7, c8, fr⟩ := h
  exact ⟨by go_simp, by go_simp, by go_simp, by go_simp, by go_simp, by go_simp, by go_simp, by go_simp, by go_simp, fun j => by rw [World.frozen?_setCell]; exact fr j⟩
theorem SlIn.setA (h : SlIn w g s) (z : Int) : SlIn (w.setCell ⟨g, 1, none⟩ (.int .i64 z)) g { s with a := z } := by
  obtain ⟨c0, c1, c2, c3, c4, c5, c6, c7, c8, fr⟩ := h
  exact ⟨by go_simp, by go_simp, by go_simp, by go_simp, by go_simp, by go_simp, by go_simp, by go_simp, by go_simp, fun j => by rw [World.frozen?_setCell]; exact fr j⟩
theorem SlIn.setB (h : SlIn w g s) (z : Int) : SlIn (w.setCell ⟨g, 2, none⟩ (.int .i64 z)) g { s with b := z } := by
  obtain ⟨c0, c1, c2, c3, c4, c5, c6, c7, c8, fr⟩ := h
  exact ⟨by go_simp, by go_simp, by go_simp, by go_simp, by go_simp, by go_simp, by go_simp, by go_simp, by go_simp, fun j => by rw [World.frozen?_setCell]; exact fr j⟩
theorem SlIn.setLo (h : SlIn w g s) (z : Ad) : SlIn (((w.setCell ⟨g, 3, none⟩ (.int .i64 z.f)).setCell ⟨g, 4, none⟩ (.int .u64 z.h)).setCell ⟨g, 5, none⟩ (.int .u64 z.l)) g { s with lo := z } := by
  obtain ⟨c0, c1, c2, c3, c4, c5, c6, c7, c8, fr⟩ := h
  exact ⟨by go_simp, by go_simp, by go_simp, by go_simp, by go_simp, by go_simp, by go_simp, by go_simp, by go_simp, fun j => by rw [World.frozen?_setCell, World.frozen?_setCell, World.frozen?_setCell]; exact fr j⟩
theorem SlIn.setHi (h : SlIn w g s) (z : Ad) : SlIn (((w.setCell ⟨g, 6, none⟩ (.int .i64 z.f)).setCell ⟨g, 7, none⟩ (.int .u64 z.h)).setCell ⟨g, 8, none⟩ (.int .u64 z.l)) g { s with hi := z } := by
  obtain ⟨c0, c1, c2, c3, c4, c5, c6, c7, c8, fr⟩ := h
  exact ⟨by go_simp, by go_simp, by go_simp, by go_simp, by go_simp, by go_simp, by go_simp, by go_simp, by go_simp, fun j => by rw [World.frozen?_setCell, World.frozen?_setCell, World.frozen?_setCell]; exact fr j⟩
theorem SlIn.setAll (h : SlIn w g s) (z : Sl) : SlIn (((((((((w.setCell ⟨g, 0, none⟩ (.int .i64 z.p)).setCell ⟨g, 1, none⟩ (.int .i64 z.a)).setCell ⟨g, 2, none⟩ (.int .i64 z.b)).setCell ⟨g, 3, none⟩ (.int .i64 z.lo.f)).setCell ⟨g, 4, none⟩ (.int .u64 z.lo.h)).setCell ⟨g, 5, none⟩ (.int .u64 z.lo.l)).setCell ⟨g, 6, none⟩ (.int .i64 z.hi.f)).setCell ⟨g, 7, none⟩ (.int .u64 z.hi.h)).setCell ⟨g, 8, none⟩ (.int .u64 z.hi.l)) g z :=
  (((((h.setP z.p).setA z.a).setB z.b).setLo z.lo).setHi z.hi)
end
theorem load_sl {w : World} {g : Nat} {s : Sl} (h : SlIn w g s) : (loadVar 117 ⟨g, 0, none⟩).run Tryd.prog w = .ok (.agg #[.int .i64 s.p, .int .i64 s.a, .int .i64 s.b, .int .i64 s.lo.f, .int .u64 s.lo.h, .int .u64 s.lo.l, .int .i64 s.hi.f, .int .u64 s.hi.h, .int .u64 s.hi.l]) w := by
  obtain ⟨c0, c1, c2, c3, c4, c5, c6, c7, c8, fr⟩ := h
  simp [loadVar, go_sem, c0, c1, c2, c3, c4, c5, c6, c7, c8, Result.andThen]
theorem ret_sl {fn : Func} {R : Ending → World → Prop} {a : Act} {w : World} {p : Nat} {g : Nat} {s : Sl} (h : fn.results = #[.cell p 117]) (hp : a.tmps.getD p undef = .pointer (some ⟨g, 0, none⟩)) (hd : a.defers = [])
    (hh : SlIn w g s) (hR : R (.returned (.agg #[.int .i64 s.p, .int .i64 s.a, .int .i64 s.b, .int .i64 s.lo.f, .int .u64 s.lo.h, .int .u64 s.lo.l, .int .i64 s.hi.f, .int .u64 s.hi.h, .int .u64 s.hi.l])) w) : bodyPost Tryd.prog fn R .ret a w := by
  refine bodyPost_ret (v := (.agg #[.int .i64 s.p, .int .i64 s.a, .int .i64 s.b, .int .i64 s.lo.f, .int .u64 s.lo.h, .int .u64 s.lo.l, .int .i64 s.hi.f, .int .u64 s.hi.h, .int .u64 s.hi.l])) ?_ hd hR
  rw [Array.getD_eq_getD_getElem?] at hp
  simp [results, h, hp, asAddr, load_sl hh]
theorem ret_sl2 {fn : Func} {R : Ending → World → Prop} {a : Act} {w : World} {p u : Nat} {g : Nat} {s : Sl} {v : Value} (h : fn.results = #[.cell p 117, .tmp u]) (hp : a.tmps.getD p undef = .pointer (some ⟨g, 0, none⟩)) (hu : a.tmps.getD u undef = v) (hd : a.defers = [])
    (hh : SlIn w g s) (hR : R (.returned (.tuple #[(.agg #[.int .i64 s.p, .int .i64 s.a, .int .i64 s.b, .int .i64 s.lo.f, .int .u64 s.lo.h, .int .u64 s.lo.l, .int .i64 s.hi.f, .int .u64 s.hi.h, .int .u64 s.hi.l]), v])) w) : bodyPost Tryd.prog fn R .ret a w := by
  refine bodyPost_ret (v := .tuple #[(.agg #[.int .i64 s.p, .int .i64 s.a, .int .i64 s.b, .int .i64 s.lo.f, .int .u64 s.lo.h, .int .u64 s.lo.l, .int .i64 s.hi.f, .int .u64 s.hi.h, .int .u64 s.hi.l]), v]) ?_ hd hR
  rw [results_cell_tmp h]
  simp only [hp]
  simp [Result.andThen, hu, asAddr, load_sl hh]
/-- The address lies at block g from its first cell on. -/
structure AdIn (w : World) (g : Nat) (x : Ad) : Prop where
  c0 : w.cell? ⟨g, 0, none⟩ = some (.int .i64 x.f)
  c1 : w.cell? ⟨g, 1, none⟩ = some (.int .u64 x.h)
  c2 : w.cell? ⟨g, 2, none⟩ = some (.int .u64 x.l)
  fr : ∀ j, w.frozen? ⟨g, j, none⟩ = false
theorem AdIn.lt {w : World} {g : Nat} {x : Ad} (h : AdIn w g x) : g < w.heap.size := World.block_lt_of_cell? w _ h.c0
theorem AdIn.grown {w w' : World} {g : Nat} {x : Ad} {row : Option Nat} (h : AdIn w g x) (hg : w.grownBy w' row) (hne : some g ≠ row) : AdIn w' g x :=
  ⟨hg.cell h.c0 hne, hg.cell h.c1 hne, hg.cell h.c2 hne, fun j => (World.frozen?_of_block (a := ⟨g, j, none⟩) (hg.block g h.lt hne)).trans (h.fr j)⟩
theorem AdIn.below {w w' : World} {g : Nat} {x : Ad} (h : AdIn w g x) (hb : Below w.heap.size w w') : AdIn w' g x := h.grown (row := none) (grown_of_below hb none) (by simp)
theorem AdIn.alloc {w : World} {g : Nat} {x : Ad} (h : AdIn w g x) (b : Obj) : AdIn (w.alloc b) g x := h.below ((Below.refl _ _).alloc (Nat.le_refl _) b)
theorem AdIn.new (w : World) (x : Ad) (T : TypeId) : AdIn (w.alloc (.cells #[.int .i64 x.f, .int .u64 x.h, .int .u64 x.l] T)) w.heap.size x :=
  ⟨by go_simp, by go_simp, by go_simp, fun j => by go_simp⟩
theorem AdIn.set_ne {w : World} {g : Nat} {x : Ad} (h : AdIn w g x) (g' j : Nat) (v : Value) (hne : g ≠ g') : AdIn (w.setCell ⟨g', j, none⟩ v) g x :=
  h.grown (grown_set w g' j v) (by simp; exact hne)
theorem AdIn.setH {w : World} {g : Nat} {x : Ad} (h : AdIn w g x) (z : Int) : AdIn (w.setCell ⟨g, 1, none⟩ (.int .u64 z)) g { x with h := z } := by
  obtain ⟨c0, c1, c2, fr⟩ := h
  exact ⟨by go_simp, by go_simp, by go_simp, fun j => by rw [World.frozen?_setCell]; exact fr j⟩
theorem AdIn.setL {w : World} {g : Nat} {x : Ad} (h : AdIn w g x) (z : Int) : AdIn (w.setCell ⟨g, 2, none⟩ (.int .u64 z)) g { x with l := z } := by
  obtain ⟨c0, c1, c2, fr⟩ := h
  exact ⟨by go_simp, by go_simp, by go_simp, fun j => by rw [World.frozen?_setCell]; exact fr j⟩
theorem load_ad {w : World} {g : Nat} {x : Ad} (h : AdIn w g x) : (loadVar 115 ⟨g, 0, none⟩).run Tryd.prog w = .ok (.agg #[.int .i64 x.f, .int .u64 x.h, .int .u64 x.l]) w := by
  obtain ⟨c0, c1, c2, fr⟩ := h
  simp [loadVar, go_sem, c0, c1, c2, Result.andThen]
theorem ret_ad {fn : Func} {R : Ending → World → Prop} {a : Act} {w : World} {p : Nat} {g : Nat} {x : Ad} (h : fn.results = #[.cell p 115]) (hp : a.tmps.getD p undef = .pointer (some ⟨g, 0, none⟩)) (hd : a.defers = [])
    (hh : AdIn w g x) (hR : R (.returned (.agg #[.int .i64 x.f, .int .u64 x.h, .int .u64 x.l])) w) : bodyPost Tryd.prog fn R .ret a w := by
  refine bodyPost_ret (v := (.agg #[.int .i64 x.f, .int .u64 x.h, .int .u64 x.l])) ?_ hd hR
  rw [Array.getD_eq_getD_getElem?] at hp
  simp [results, h, hp, asAddr, load_ad hh]
/-- Two cells of numbers of a call's own. -/
structure TwoIn (w : World) (g : Nat) (x y : Int) : Prop where
  c0 : w.cell? ⟨g, 0, none⟩ = some (.int .i64 x)
  c1 : w.cell? ⟨g, 1, none⟩ = some (.int .i64 y)
  fr : ∀ j, w.frozen? ⟨g, j, none⟩ = false
theorem TwoIn.lt {w : World} {g : Nat} {x y : Int} (h : TwoIn w g x y) : g < w.heap.size := World.block_lt_of_cell? w _ h.c0
theorem TwoIn.grown {w w' : World} {g : Nat} {x y : Int} {row : Option Nat} (h : TwoIn w g x y) (hg : w.grownBy w' row) (hne : some g ≠ row) : TwoIn w' g x y :=
  ⟨hg.cell h.c0 hne, hg.cell h.c1 hne, fun j => (World.frozen?_of_block (a := ⟨g, j, none⟩) (hg.block g h.lt hne)).trans (h.fr j)⟩
theorem TwoIn.below {w w' : World} {g : Nat} {x y : Int} (h : TwoIn w g x y) (hb : Below w.heap.size w w') : TwoIn w' g x y := h.grown (row := none) (grown_of_below hb none) (by simp)
theorem TwoIn.alloc {w : World} {g : Nat} {x y : Int} (h : TwoIn w g x y) (b : Obj) : TwoIn (w.alloc b) g x y := h.below ((Below.refl _ _).alloc (Nat.le_refl _) b)
theorem TwoIn.new (w : World) (x y : Int) (T : TypeId) : TwoIn (w.alloc (.cells #[.int .i64 x, .int .i64 y] T)) w.heap.size x y :=
  ⟨by go_simp, by go_simp, fun j => by go_simp⟩
theorem TwoIn.set_ne {w : World} {g : Nat} {x y : Int} (h : TwoIn w g x y) (g' j : Nat) (v : Value) (hne : g ≠ g') : TwoIn (w.setCell ⟨g', j, none⟩ v) g x y :=
  h.grown (grown_set w g' j v) (by simp; exact hne)

end Go.Proofs.YtpocehpejbnemaaDoor

namespace Go.Proofs.YtpocehpejbnemaaDoor
open Go.RowKit
set_option linter.unusedVariables false

theorem checkS_cases (s : Sl) (b1 b2 b3 b4 : Bool) (h1 : validA s.lo = b1) (h2 : validA s.hi = b2) (h3 : ltA s.hi s.lo = b3) (h4 : portsOk s.a s.b = b4) (z : Int) (h : checkS s = z) :
    (b1 = false ∧ z = 15) ∨ (b1 = true ∧ b2 = false ∧ z = 15) ∨ (b1 = true ∧ b2 = true ∧ (s.lo.f != s.hi.f) = true ∧ z = 15) ∨ (b1 = true ∧ b2 = true ∧ (s.lo.f != s.hi.f) = false ∧ b3 = true ∧ z = 5) ∨
    (b1 = true ∧ b2 = true ∧ (s.lo.f != s.hi.f) = false ∧ b3 = false ∧ s.p < 0 ∧ z = 5) ∨ (b1 = true ∧ b2 = true ∧ (s.lo.f != s.hi.f) = false ∧ b3 = false ∧ ¬ s.p < 0 ∧ s.p > 255 ∧ z = 5) ∨
    (b1 = true ∧ b2 = true ∧ (s.lo.f != s.hi.f) = false ∧ b3 = false ∧ ¬ s.p < 0 ∧ ¬ s.p > 255 ∧ b4 = false ∧ z = 5) ∨ (b1 = true ∧ b2 = true ∧ (s.lo.f != s.hi.f) = false ∧ b3 = false ∧ ¬ s.p < 0 ∧ ¬ s.p > 255 ∧ b4 = true ∧ z = 0) := by
  unfold checkS at h
  rw [h1, h2, h3, h4] at h
  subst h
  by_cases hf : s.lo.f = s.hi.f <;> by_cases hp : s.p < 0 <;> by_cases hq : s.p > 255 <;> cases b1 <;> cases b2 <;> cases b3 <;> cases b4 <;> simp_all

set_option maxHeartbeats 1600000 in
theorem scheck_at (s : Sl) (z : Int) (hz : checkS s = z) (w : World) :
    Calls Tryd.prog 115 #[(.agg #[.int .i64 s.p, .int .i64 s.a, .int .i64 s.b, .int .i64 s.lo.f, .int .u64 s.lo.h, .int .u64 s.lo.l, .int .i64 s.hi.f, .int .u64 s.hi.h, .int .u64 s.hi.l])] w fun e w' => e = .returned (.int .i64 z) ∧ Below w.heap.size w w' := by
  obtain ⟨b1, h1⟩ : ∃ b, validA s.lo = b := ⟨_, rfl⟩
  obtain ⟨b2, h2⟩ : ∃ b, validA s.hi = b := ⟨_, rfl⟩
  obtain ⟨b3, h3⟩ : ∃ b, ltA s.hi s.lo = b := ⟨_, rfl⟩
  obtain ⟨b4, h4⟩ : ∃ b, portsOk s.a s.b = b := ⟨_, rfl⟩
  have hc := checkS_cases s b1 b2 b3 b4 h1 h2 h3 h4 z hz
  have HV := hidden (valid_any s.lo)
  have HU := hidden (valid_any s.hi)
  have HL := hidden (sless_any s.hi s.lo)
  have HQ := hidden (arePorts_any s.a s.b)
  rw [h1] at HV
  rw [h2] at HU
  rw [h3] at HL
  rw [h4] at HQ
  have HB := hidden ((Below.refl w.heap.size w).alloc (Nat.le_refl _) (.cells #[.int .i64 s.p, .int .i64 s.a, .int .i64 s.b, .int .i64 s.lo.f, .int .u64 s.lo.h, .int .u64 s.lo.l, .int .i64 s.hi.f, .int .u64 s.hi.h, .int .u64 s.hi.l] 117))
  have HS := hidden (SlIn.new w s 117)
  clear h1 h2 h3 h4 hz
  rcases hc with ⟨rfl, rfl⟩ | ⟨rfl, rfl, rfl⟩ | ⟨rfl, rfl, k1, rfl⟩ | ⟨rfl, rfl, k1, rfl, rfl⟩ | ⟨rfl, rfl, k1, rfl, k2, rfl⟩ | ⟨rfl, rfl, k1, rfl, k2, k3, rfl⟩ | ⟨rfl, rfl, k1, rfl, k2, k3, rfl, rfl⟩ | ⟨rfl, rfl, k1, rfl, k2, k3, rfl, rfl⟩
  all_goals
    go_enter Tryd.func115, Tryd.ntmps115
    go_wp2_with (first
      | (go_at_call 127; (first | (with_reducible refine (HV.out _).mono ?_) | (with_reducible refine (HU.out _).mono ?_)); rintro e w1 ⟨rfl, hb⟩; replace HB := hidden (HB.out.trans (hb.mono HB.out.size)); replace HS := hidden (HS.out.below hb); clear hb; (try clear c0 c1 c2 c3 c4 c5 c6 c7 c8 fr); obtain ⟨c0, c1, c2, c3, c4, c5, c6, c7, c8, fr⟩ := HS.out)
      | (go_at_call 128; (with_reducible refine (HL.out _).mono ?_); rintro e w1 ⟨rfl, hb⟩; replace HB := hidden (HB.out.trans (hb.mono HB.out.size)); replace HS := hidden (HS.out.below hb); clear hb; clear c0 c1 c2 c3 c4 c5 c6 c7 c8 fr; obtain ⟨c0, c1, c2, c3, c4, c5, c6, c7, c8, fr⟩ := HS.out)
      | (go_at_call 129; (with_reducible refine (HQ.out _).mono ?_); rintro e w1 ⟨rfl, rfl⟩))
    go_ret
    exact ⟨rfl, HB.out⟩
theorem scheck_any (s : Sl) (w : World) :
    Calls Tryd.prog 115 #[(.agg #[.int .i64 s.p, .int .i64 s.a, .int .i64 s.b, .int .i64 s.lo.f, .int .u64 s.lo.h, .int .u64 s.lo.l, .int .i64 s.hi.f, .int .u64 s.hi.h, .int .u64 s.hi.l])] w fun e w' => e = .returned (.int .i64 (checkS s)) ∧ Below w.heap.size w w' := scheck_at s _ rfl w
end Go.Proofs.YtpocehpejbnemaaDoor

namespace Go.Proofs.YtpocehpejbnemaaDoor
open Go.RowKit
set_option linter.unusedVariables false

theorem rvalid_any (x : Ad) (w : World) :
    Calls Tryd.prog 133 #[(.agg #[.int .i64 x.f, .int .u64 x.h, .int .u64 x.l])] w fun e w' => e = .returned (.bool (validA x)) ∧ Below w.heap.size w w' := by
  go_enter Tryd.func133, Tryd.ntmps133
  go_wp2
  all_goals go_ret
  all_goals refine ⟨?_, (Below.refl _ _).alloc (Nat.le_refl _) _⟩
  all_goals simp_all [validA]
  all_goals (rw [Bool.eq_iff_iff]; simp)

theorem checkR_cases (s : Sl) (b1 b2 b3 : Bool) (h1 : validA s.lo = b1) (h2 : validA s.hi = b2) (h3 : ltA s.hi s.lo = b3) (z : Int) (h : checkS s = z) :
    (b1 = false ∧ z = 15) ∨ (b1 = true ∧ b2 = false ∧ z = 15) ∨ (b1 = true ∧ b2 = true ∧ (s.lo.f != s.hi.f) = true ∧ z = 15) ∨ (b1 = true ∧ b2 = true ∧ (s.lo.f != s.hi.f) = false ∧ b3 = true ∧ z = 5) ∨
    (b1 = true ∧ b2 = true ∧ (s.lo.f != s.hi.f) = false ∧ b3 = false ∧ s.p < 0 ∧ z = 5) ∨ (b1 = true ∧ b2 = true ∧ (s.lo.f != s.hi.f) = false ∧ b3 = false ∧ ¬ s.p < 0 ∧ s.p > 255 ∧ z = 5) ∨
    (b1 = true ∧ b2 = true ∧ (s.lo.f != s.hi.f) = false ∧ b3 = false ∧ ¬ s.p < 0 ∧ ¬ s.p > 255 ∧ (s.a == 65535) = true ∧ (s.b == 0) = true ∧ z = 0) ∨
    (b1 = true ∧ b2 = true ∧ (s.lo.f != s.hi.f) = false ∧ b3 = false ∧ ¬ s.p < 0 ∧ ¬ s.p > 255 ∧ ((s.a == 65535) = false ∨ ((s.a == 65535) = true ∧ (s.b == 0) = false)) ∧ s.a < 0 ∧ z = 5) ∨
    (b1 = true ∧ b2 = true ∧ (s.lo.f != s.hi.f) = false ∧ b3 = false ∧ ¬ s.p < 0 ∧ ¬ s.p > 255 ∧ ((s.a == 65535) = false ∨ ((s.a == 65535) = true ∧ (s.b == 0) = false)) ∧ ¬ s.a < 0 ∧ s.b > 65535 ∧ z = 5) ∨
    (b1 = true ∧ b2 = true ∧ (s.lo.f != s.hi.f) = false ∧ b3 = false ∧ ¬ s.p < 0 ∧ ¬ s.p > 255 ∧ ((s.a == 65535) = false ∨ ((s.a == 65535) = true ∧ (s.b == 0) = false)) ∧ ¬ s.a < 0 ∧ ¬ s.b > 65535 ∧ s.a > s.b ∧ z = 5) ∨
    (b1 = true ∧ b2 = true ∧ (s.lo.f != s.hi.f) = false ∧ b3 = false ∧ ¬ s.p < 0 ∧ ¬ s.p > 255 ∧ ((s.a == 65535) = false ∨ ((s.a == 65535) = true ∧ (s.b == 0) = false)) ∧ ¬ s.a < 0 ∧ ¬ s.b > 65535 ∧ ¬ s.a > s.b ∧ z = 0) := by
  have h4 : portsOk s.a s.b = decide ((s.a = 65535 ∧ s.b = 0) ∨ (0 ≤ s.a ∧ s.a ≤ s.b ∧ s.b ≤ 65535)) := by
    unfold portsOk
    rw [Bool.eq_iff_iff]
    simp
    omega
  rcases checkS_cases s b1 b2 b3 _ h1 h2 h3 h4 z h with h | h | h | h | h | h | ⟨q1, q2, q3, q4, q5, q6, q7, q8⟩ | ⟨q1, q2, q3, q4, q5, q6, q7, q8⟩
  · exact Or.inl h
  · exact Or.inr (Or.inl h)
  · exact Or.inr (Or.inr (Or.inl h))
  · exact Or.inr (Or.inr (Or.inr (Or.inl h)))
  · exact Or.inr (Or.inr (Or.inr (Or.inr (Or.inl h))))
  · exact Or.inr (Or.inr (Or.inr (Or.inr (Or.inr (Or.inl h)))))
  · rw [decide_eq_false_iff_not] at q7
    refine Or.inr (Or.inr (Or.inr (Or.inr (Or.inr (Or.inr (Or.inr ?_))))))
    have q9 : (s.a == 65535) = false ∨ ((s.a == 65535) = true ∧ (s.b == 0) = false) := by
      by_cases e : s.a = 65535
      · exact Or.inr ⟨by simpa using e, by simp; omega⟩
      · exact Or.inl (by simpa using e)
    by_cases e1 : s.a < 0
    · exact Or.inl ⟨q1, q2, q3, q4, q5, q6, q9, e1, q8⟩
    by_cases e2 : s.b > 65535
    · exact Or.inr (Or.inl ⟨q1, q2, q3, q4, q5, q6, q9, e1, e2, q8⟩)
    · exact Or.inr (Or.inr (Or.inl ⟨q1, q2, q3, q4, q5, q6, q9, e1, e2, by omega, q8⟩))
  · rw [decide_eq_true_iff] at q7
    refine Or.inr (Or.inr (Or.inr (Or.inr (Or.inr (Or.inr ?_)))))
    by_cases e : s.a = 65535 ∧ s.b = 0
    · exact Or.inl ⟨q1, q2, q3, q4, q5, q6, by simpa using e.1, by simpa using e.2, q8⟩
    · have q9 : (s.a == 65535) = false ∨ ((s.a == 65535) = true ∧ (s.b == 0) = false) := by
        by_cases e : s.a = 65535
        · exact Or.inr ⟨by simpa using e, by simp; omega⟩
        · exact Or.inl (by simpa using e)
      exact Or.inr (Or.inr (Or.inr (Or.inr ⟨q1, q2, q3, q4, q5, q6, q9, by omega, by omega, by omega, q8⟩)))

end Go.Proofs.YtpocehpejbnemaaDoor
