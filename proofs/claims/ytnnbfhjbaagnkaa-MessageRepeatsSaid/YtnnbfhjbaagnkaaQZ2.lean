/-
  The cursor that package proposal reads with: a field behind the other; one that is missing is thrown.
  What package proposal reads of a section and of a transform, or throws.
  What package proposal reads of the inside of a transform, or throws.
  What package proposal reads of transforms one behind the other, or throws.
  What package proposal reads of the inside of a proposal, or throws.
-/
import Derived.Test.YtnnbfhjbaagnkaaQZ3
import Derived.Test.YtnnbfhjbaagnkaaQZ0
import Derived.Test.YtnnbfhjbaagnkaaQZ1
import Derived.WalkLawsBesides
import Derived.Deep.QuietTactic
import Derived.BigQuiet
import Derived.Deep.RegionLaw
namespace Go.Proofs.Ytnnbfhjbaagnkaa
open Go.RowKit
set_option linter.unusedVariables false

/-- What need throws. -/
def Thrown (e : Ending) : Prop := e = .panicked [{ v := .iface 34 (.int .i64 4), recovered := false }]

/-- The cursor at block k: its bytes, its place. -/
structure Cu (w : World) (k : Nat) (p : Option Addr) (n c : Nat) (a : Int) : Prop where
  c0 : w.cell? ⟨k, 0, none⟩ = some (.slice p n c)
  c1 : w.cell? ⟨k, 1, none⟩ = some (.int .i64 a)
  fr : ∀ j, w.frozen? ⟨k, j, none⟩ = false
theorem Cu.lt {w : World} {k : Nat} {p : Option Addr} {n c : Nat} {a : Int} (h : Cu w k p n c a) : k < w.heap.size := World.block_lt_of_cell? w _ h.c0
theorem Cu.grown {w w' : World} {k : Nat} {p : Option Addr} {n c : Nat} {a : Int} {row : Option Nat} (h : Cu w k p n c a) (hg : w.grownBy w' row) (hne : some k ≠ row) : Cu w' k p n c a :=
  ⟨hg.cell h.c0 hne, hg.cell h.c1 hne, fun j => (World.frozen?_of_block (a := ⟨k, j, none⟩) (hg.block k h.lt hne)).trans (h.fr j)⟩
theorem Cu.below {w w' : World} {k : Nat} {p : Option Addr} {n c : Nat} {a : Int} (h : Cu w k p n c a) (hb : Below w.heap.size w w') : Cu w' k p n c a := h.grown (row := none) (grown_of_below hb none) (by simp)
theorem Cu.alloc {w : World} {k : Nat} {p : Option Addr} {n c : Nat} {a : Int} (h : Cu w k p n c a) (o : Obj) : Cu (w.alloc o) k p n c a := h.below ((Below.refl _ _).alloc (Nat.le_refl _) o)
theorem Cu.set_ne {w : World} {k : Nat} {p : Option Addr} {n c : Nat} {a : Int} (h : Cu w k p n c a) (g j : Nat) (v : Value) (hne : k ≠ g) : Cu (w.setCell ⟨g, j, none⟩ v) k p n c a := h.grown (grown_set w g j v) (by simp; exact hne)
theorem Cu.step {w : World} {k : Nat} {p : Option Addr} {n c : Nat} {a : Int} (h : Cu w k p n c a) (z : Int) : Cu (w.setCell ⟨k, 1, none⟩ (.int .i64 z)) k p n c z := by
  obtain ⟨c0, c1, fr⟩ := h
  exact ⟨by go_simp, by go_simp, fun j => by rw [World.frozen?_setCell]; exact fr j⟩
theorem Cu.new (w : World) (p : Option Addr) (n c : Nat) (a : Int) (T : TypeId) : Cu (w.alloc (.cells #[.slice p n c, .int .i64 a] T)) w.heap.size p n c a :=
  ⟨by go_simp, by go_simp, fun j => by go_simp⟩
/-- Writing a block that is new since. -/
theorem grown_new {a b c : World} {row : Option Nat} {R : Nat} (h : a.grownBy b row) (k : b.grownBy c (some R)) (hR : a.heap.size ≤ R) : a.grownBy c row :=
  ⟨k.os.trans h.os, k.tape.trans h.tape, k.output.trans h.output, Nat.le_trans h.size k.size, fun i hi hne => (k.block i (Nat.lt_of_lt_of_le hi h.size) (by simp; omega)).trans (h.block i hi hne)⟩

/-- A number of one or two bytes at a place. -/
def numP (xs : List Int) (a d : Nat) : Int := val ((xs.drop a).take d)
theorem num_one (xs : List Int) (a : Nat) (h : a < xs.length) : numP xs a 1 = xs.getD a 0 := by
  rw [numP, show (xs.drop a).take 1 = [xs.getD a 0] by
    apply List.ext_getElem
    · simp; omega
    · intro i h1 h2
      have : i = 0 := by simp at h2; omega
      subst this
      simp [List.getD_eq_getElem?_getD, List.getElem?_eq_getElem h]]
  simp [val]
theorem num_two (xs : List Int) (a : Nat) (h : a + 2 ≤ xs.length) : numP xs a 2 = w2 xs a := by
  have e : (xs.drop a).take 2 = [xs.getD a 0, xs.getD (a + 1) 0] := by
    apply List.ext_getElem
    · simp; omega
    · intro i h1 h2
      have : i = 0 ∨ i = 1 := by simp at h2; omega
      rcases this with rfl | rfl <;> simp [List.getD_eq_getElem?_getD] <;> rw [List.getElem?_eq_getElem (by omega)] <;> rfl
  rw [numP, e, w2]
  simp [val]
theorem numP_bd {xs : List Int} (hr : ∀ x ∈ xs, 0 ≤ x ∧ x ≤ 255) (a d : Nat) (hd : d ≤ 2) : 0 ≤ numP xs a d ∧ numP xs a d ≤ 65535 := by
  have h1 := val_bd ((xs.drop a).take d) (rng_take (rng_drop hr _) _)
  have h2 := pow256_le (show ((xs.drop a).take d).length ≤ 2 by simp; omega)
  have h3 : (256 : Int) ^ 2 = 65536 := by decide
  unfold numP
  omega

end Go.Proofs.Ytnnbfhjbaagnkaa

namespace Go.Proofs.Ytnnbfhjbaagnkaa
open Go.RowKit
set_option linter.unusedVariables false

/-- A parser at block k: its bytes, and how many of them are read. -/
structure PS (w : World) (k : Nat) (p : Option Addr) (n c : Nat) (xs : List Int) (a : Nat) : Prop where
  cu : Cu w k p n c a
  byt : ∃ W, Byt W p n c xs ∧ Below W.heap.size W w ∧ W.heap.size ≤ k
  le : a ≤ n
section
variable {w w' : World} {k : Nat} {p : Option Addr} {n c : Nat} {xs : List Int} {a b : Nat}
theorem PS.here (h : PS w k p n c xs a) : Byt w p n c xs := by
  obtain ⟨W, h1, h2, _⟩ := h.byt
  exact h1.below h2
theorem PS.next (h : PS w k p n c xs a) (hg : w.grownBy w' (some k)) (hc : Cu w' k p n c (b : Nat)) (hb : b ≤ n) : PS w' k p n c xs b := by
  obtain ⟨W, h1, h2, h3⟩ := h.byt
  exact ⟨hc, ⟨W, h1, h2.grown hg h2.size (fun r hr => by cases hr; exact h3), h3⟩, hb⟩
theorem PS.off {row : Option Nat} (h : PS w k p n c xs a) (hg : w.grownBy w' row) (hr : ∀ r, row = some r → k < r) : PS w' k p n c xs a := by
  obtain ⟨W, h1, h2, h3⟩ := h.byt
  exact ⟨h.cu.grown hg (fun e => by have := hr k e.symm; omega), ⟨W, h1, h2.grown hg h2.size (fun r e => by have := hr r e; omega), h3⟩, h.le⟩
theorem PS.below (h : PS w k p n c xs a) (hb : Below w.heap.size w w') : PS w' k p n c xs a := h.off (row := none) (grown_of_below hb none) (by simp)
theorem PS.lt (h : PS w k p n c xs a) : k < w.heap.size := h.cu.lt
end

/-- A section: its inside, and how many bytes it has. -/
def secV (more : Int) (ys : List Int) : Option (List Int × Nat) :=
  if ys.length < 4 then none else if w2 ys 2 < 4 ∨ (ys.length : Int) < w2 ys 2 then none
  else if ys.getD 0 0 ≠ (if (ys.length : Int) = w2 ys 2 then 0 else more) then none else some ((ys.take (w2 ys 2).toNat).drop 4, (w2 ys 2).toNat)

/-- What section returns. -/
def GotS (w : World) (k : Nat) (p : Option Addr) (n c : Nat) (xs : List Int) (a : Nat) (r : Option (List Int × Nat)) (e : Ending) (w' : World) : Prop :=
  w.grownBy w' (some k) ∧ match r with
  | none => Thrown e
  | some x => ∃ R q m d, e = .returned (.pointer (some ⟨R, 0, none⟩)) ∧ w.heap.size ≤ R ∧ PS w' R q m d x.1 0 ∧ PS w' k p n c xs (a + x.2)
theorem gots_none {w : World} {k : Nat} {p : Option Addr} {n c : Nat} {xs : List Int} {a : Nat} {r : Option (List Int × Nat)} {e : Ending} {w' : World} (hg : w.grownBy w' (some k)) (hr : r = none) (ht : Thrown e) : GotS w k p n c xs a r e w' := by
  subst hr
  exact ⟨hg, ht⟩

theorem getD_dropP (xs : List Int) (a b : Nat) : (xs.drop a).getD b 0 = xs.getD (a + b) 0 := by simp [List.getD_eq_getElem?_getD]
theorem w2_dropP (xs : List Int) (a b : Nat) : w2 (xs.drop a) b = w2 xs (a + b) := by rw [w2, getD_dropP, getD_dropP, w2, Nat.add_assoc]
theorem w2_bdP (xs : List Int) (hr : ∀ x ∈ xs, 0 ≤ x ∧ x ≤ 255) (a : Nat) : 0 ≤ w2 xs a ∧ w2 xs a ≤ 65535 := by
  have h0 := rng_getD hr a
  have h1 := rng_getD hr (a + 1)
  unfold w2
  omega

theorem secV_at (more : Int) (xs : List Int) (n a : Nat) (hl : xs.length = n) (L x0 : Int) (hL : w2 xs (a + 2) = L) (hx : xs.getD a 0 = x0) : secV more (xs.drop a) =
    if n - a < 4 then none else if L < 4 ∨ ((n - a : Nat) : Int) < L then none else if x0 ≠ (if ((n - a : Nat) : Int) = L then 0 else more) then none else some (((xs.drop a).take L.toNat).drop 4, L.toNat) := by
  subst hL hx hl
  have e : xs.getD a 0 = (xs.drop a).getD 0 0 := by rw [getD_dropP]; rfl
  rw [e]
  unfold secV
  rw [List.length_drop, w2_dropP]

end Go.Proofs.Ytnnbfhjbaagnkaa

namespace Go.Proofs.Ytnnbfhjbaagnkaa
open Go.RowKit
set_option linter.unusedVariables false

/-- A transform in a block of the call's own. -/
structure TrIn (w : World) (g : Nat) (t i k : Int) : Prop where
  c0 : w.cell? ⟨g, 0, none⟩ = some (.int .i64 t)
  c1 : w.cell? ⟨g, 1, none⟩ = some (.int .i64 i)
  c2 : w.cell? ⟨g, 2, none⟩ = some (.int .i64 k)
  fr : ∀ j, w.frozen? ⟨g, j, none⟩ = false
section
variable {w w' : World} {g : Nat} {t i k : Int}
theorem TrIn.lt (h : TrIn w g t i k) : g < w.heap.size := World.block_lt_of_cell? w _ h.c0
theorem TrIn.grown {row : Option Nat} (h : TrIn w g t i k) (hg : w.grownBy w' row) (hne : some g ≠ row) : TrIn w' g t i k :=
  ⟨hg.cell h.c0 hne, hg.cell h.c1 hne, hg.cell h.c2 hne, fun j => (World.frozen?_of_block (a := ⟨g, j, none⟩) (hg.block g h.lt hne)).trans (h.fr j)⟩
theorem TrIn.below (h : TrIn w g t i k) (hb : Below w.heap.size w w') : TrIn w' g t i k := h.grown (row := none) (grown_of_below hb none) (by simp)
theorem TrIn.set0 (h : TrIn w g t i k) (v : Int) : TrIn (w.setCell ⟨g, 0, none⟩ (.int .i64 v)) g v i k := by
  obtain ⟨c0, c1, c2, fr⟩ := h
  exact ⟨by go_simp, by go_simp, by go_simp, fun j => by rw [World.frozen?_setCell]; exact fr j⟩
theorem TrIn.set1 (h : TrIn w g t i k) (v : Int) : TrIn (w.setCell ⟨g, 1, none⟩ (.int .i64 v)) g t v k := by
  obtain ⟨c0, c1, c2, fr⟩ := h
  exact ⟨by go_simp, by go_simp, by go_simp, fun j => by rw [World.frozen?_setCell]; exact fr j⟩
theorem TrIn.set2 (h : TrIn w g t i k) (v : Int) : TrIn (w.setCell ⟨g, 2, none⟩ (.int .i64 v)) g t i v := by
  obtain ⟨c0, c1, c2, fr⟩ := h
  exact ⟨by go_simp, by go_simp, by go_simp, fun j => by rw [World.frozen?_setCell]; exact fr j⟩
theorem TrIn.new (w : World) (t i k : Int) (T : TypeId) : TrIn (w.alloc (.cells #[.int .i64 t, .int .i64 i, .int .i64 k] T)) w.heap.size t i k :=
  ⟨by go_simp, by go_simp, by go_simp, fun j => by go_simp⟩
end
theorem load_tr {w : World} {g : Nat} {t i k : Int} (h : TrIn w g t i k) : (loadVar 77 ⟨g, 0, none⟩).run Try.prog w = .ok (.agg #[.int .i64 t, .int .i64 i, .int .i64 k]) w := by
  obtain ⟨c0, c1, c2, fr⟩ := h
  simp [loadVar, go_sem, c0, c1, c2, Result.andThen]
theorem ret_tr {fn : Func} {R : Ending → World → Prop} {a : Act} {w : World} {p : Nat} {g : Nat} {t i k : Int} (h : fn.results = #[.cell p 77]) (hp : a.tmps.getD p undef = .pointer (some ⟨g, 0, none⟩)) (hd : a.defers = [])
    (hh : TrIn w g t i k) (hR : R (.returned (.agg #[.int .i64 t, .int .i64 i, .int .i64 k])) w) : bodyPost Try.prog fn R .ret a w := by
  refine bodyPost_ret (v := .agg #[.int .i64 t, .int .i64 i, .int .i64 k]) ?_ hd hR
  rw [Array.getD_eq_getD_getElem?] at hp
  simp [results, h, hp, asAddr, load_tr hh]

/-- The inside of a transform. -/
def trV (zs : List Int) : Option Tr :=
  if zs.length < 4 then none else if zs.length = 4 then some ⟨zs.getD 0 0, w2 zs 2, 0⟩
  else if zs.length ≠ 8 ∨ w2 zs 4 ≠ 32782 ∨ w2 zs 6 = 0 then none else some ⟨zs.getD 0 0, w2 zs 2, w2 zs 6⟩
/-- What transform returns. -/
def GotTr (w : World) (k : Nat) (r : Option Tr) (e : Ending) (w' : World) : Prop :=
  w.grownBy w' (some k) ∧ match r with
  | none => Thrown e
  | some x => e = .returned (.agg #[.int .i64 x.t, .int .i64 x.i, .int .i64 x.k]) ∧ IntT x
theorem gottr_none {w : World} {k : Nat} {r : Option Tr} {e : Ending} {w' : World} (hg : w.grownBy w' (some k)) (hr : r = none) (ht : Thrown e) : GotTr w k r e w' := by
  subst hr
  exact ⟨hg, ht⟩
theorem intT_of {a b c : Int} (h1 : 0 ≤ a ∧ a ≤ 65535) (h2 : 0 ≤ b ∧ b ≤ 65535) (h3 : 0 ≤ c ∧ c ≤ 65535) : IntT ⟨a, b, c⟩ := by
  refine ⟨⟨?_, ?_⟩, ⟨?_, ?_⟩, ?_, ?_⟩ <;> simp only <;> omega
theorem gottr_some {w : World} {k : Nat} {r : Option Tr} {t i kk : Int} {w' : World} (hg : w.grownBy w' (some k)) (hr : r = some ⟨t, i, kk⟩) (h : IntT ⟨t, i, kk⟩) : GotTr w k r (.returned (.agg #[.int .i64 t, .int .i64 i, .int .i64 kk])) w' := by
  subst hr
  exact ⟨hg, rfl, h⟩

/-- In the midst of transform: what is read, and the two blocks of the result. -/
structure TS (w w1 : World) (k : Nat) (p : Option Addr) (n c : Nat) (xs : List Int) (a : Nat) (t i kk : Int) : Prop where
  ps : PS w1 k p n c xs a
  gr : w.grownBy w1 (some k)
  lk : k < w.heap.size
  rt : TrIn w1 w.heap.size 0 0 0
  ru : TrIn w1 (w.heap.size + 1) t i kk
section
variable {w w1 w2 : World} {k : Nat} {p : Option Addr} {n c : Nat} {xs : List Int} {a b : Nat} {t i kk : Int}
theorem TS.step (h : TS w w1 k p n c xs a t i kk) (hg : w1.grownBy w2 (some k)) (hp : PS w2 k p n c xs b) : TS w w2 k p n c xs b t i kk :=
  ⟨hp, grown_trans h.gr hg, h.lk, h.rt.grown hg (by have := h.lk; simp; omega), h.ru.grown hg (by have := h.lk; simp; omega)⟩
theorem TS.below (h : TS w w1 k p n c xs a t i kk) (hb : Below w1.heap.size w1 w2) : TS w w2 k p n c xs a t i kk := h.step (grown_of_below hb _) (h.ps.below hb)
theorem TS.set (h : TS w w1 k p n c xs a t i kk) (j : Nat) (v : Int) {t' i' k' : Int} (hu : TrIn (w1.setCell ⟨w.heap.size + 1, j, none⟩ (.int .i64 v)) (w.heap.size + 1) t' i' k') : TS w (w1.setCell ⟨w.heap.size + 1, j, none⟩ (.int .i64 v)) k p n c xs a t' i' k' :=
  ⟨h.ps.off (grown_set _ _ _ _) (fun r hr => by cases hr; have := h.lk; omega), grown_set_new h.gr _ _ _ (by omega), h.lk, h.rt.grown (grown_set _ _ _ _) (by simp), hu⟩
end

end Go.Proofs.Ytnnbfhjbaagnkaa

namespace Go.Proofs.Ytnnbfhjbaagnkaa
open Go.RowKit
set_option linter.unusedVariables false

theorem secV_cases (more : Int) (ys : List Int) :
    (ys.length < 4 ∧ secV more ys = none) ∨ (4 ≤ ys.length ∧ (w2 ys 2 < 4 ∨ (ys.length : Int) < w2 ys 2) ∧ secV more ys = none)
    ∨ (4 ≤ ys.length ∧ ¬ (w2 ys 2 < 4 ∨ (ys.length : Int) < w2 ys 2) ∧ ys.getD 0 0 ≠ (if (ys.length : Int) = w2 ys 2 then 0 else more) ∧ secV more ys = none)
    ∨ (4 ≤ ys.length ∧ ¬ (w2 ys 2 < 4 ∨ (ys.length : Int) < w2 ys 2) ∧ ys.getD 0 0 = (if (ys.length : Int) = w2 ys 2 then 0 else more) ∧ secV more ys = some ((ys.take (w2 ys 2).toNat).drop 4, (w2 ys 2).toNat)) := by
  unfold secV
  by_cases h1 : ys.length < 4
  · exact Or.inl ⟨h1, if_pos h1⟩
  by_cases h2 : w2 ys 2 < 4 ∨ (ys.length : Int) < w2 ys 2
  · exact Or.inr (Or.inl ⟨by omega, h2, by rw [if_neg h1, if_pos h2]⟩)
  by_cases h3 : ys.getD 0 0 ≠ (if (ys.length : Int) = w2 ys 2 then 0 else more)
  · exact Or.inr (Or.inr (Or.inl ⟨by omega, h2, h3, by rw [if_neg h1, if_neg h2, if_pos h3]⟩))
  · exact Or.inr (Or.inr (Or.inr ⟨by omega, h2, Decidable.not_not.1 h3, by rw [if_neg h1, if_neg h2, if_neg h3]⟩))
/-- What a section's inside is. -/
structure InS (more : Int) (ys zs : List Int) (L : Nat) : Prop where
  l : w2 ys 2 = L
  len : zs.length + 4 = L
  le : L ≤ ys.length
  x0 : ys.getD 0 0 = (if (ys.length : Int) = L then 0 else more)
  zs : zs = (ys.take L).drop 4
theorem secV_in {more : Int} {ys zs : List Int} {L : Nat} (h : secV more ys = some (zs, L)) : InS more ys zs L := by
  rcases secV_cases more ys with ⟨_, h1⟩ | ⟨_, _, h1⟩ | ⟨_, _, _, h1⟩ | ⟨h2, h3, h4, h1⟩
  · rw [h1] at h; cases h
  · rw [h1] at h; cases h
  · rw [h1] at h; cases h
  rw [h1] at h
  simp only [Option.some.injEq, Prod.mk.injEq] at h
  obtain ⟨h5, h6⟩ := h
  have h7 : w2 ys 2 = L := by omega
  have h8 : zs.length + 4 = L := by rw [← h5, List.length_drop, List.length_take]; omega
  rw [h7] at h4
  exact ⟨h7, h8, by omega, h4, by rw [← h5, h6]⟩
theorem secV_len {more : Int} {ys zs : List Int} {L : Nat} (h : secV more ys = some (zs, L)) : zs.length + 4 = L ∧ L ≤ ys.length := ⟨(secV_in h).len, (secV_in h).le⟩
theorem getD_inside (ys : List Int) (L a : Nat) (h : 4 + a < L) : ((ys.take L).drop 4).getD a 0 = ys.getD (4 + a) 0 := by
  rw [getD_dropP, List.getD_eq_getElem?_getD, List.getD_eq_getElem?_getD, List.getElem?_take_of_lt h]
theorem w2_inside (ys : List Int) (L a : Nat) (h : 4 + a + 1 < L) : w2 ((ys.take L).drop 4) a = w2 ys (4 + a) := by
  rw [w2, getD_inside _ _ _ (by omega), getD_inside _ _ _ (by omega), w2, Nat.add_assoc]
theorem trV_attr (zs : List Int) (h : 4 ≤ zs.length) : trV zs = if (attrV (zs.drop 4)).2 = false then none else some ⟨zs.getD 0 0, w2 zs 2, (attrV (zs.drop 4)).1⟩ := by
  have h3 : ¬ zs.length < 4 := by omega
  have hl : (zs.drop 4).length = zs.length - 4 := by simp
  by_cases h4 : zs.length = 4
  · have ha : attrV (zs.drop 4) = (0, true) := by rw [attrV, if_pos (by omega)]
    rw [ha, trV, if_neg h3, if_pos h4]
    rfl
  have h5 : ¬ (zs.drop 4).length = 0 := by omega
  by_cases h8 : zs.length ≠ 8 ∨ w2 zs 4 ≠ 32782 ∨ w2 zs 6 = 0
  · have ha : attrV (zs.drop 4) = (0, false) := by rw [attrV, if_neg h5, if_pos]; rw [w2_dropP, w2_dropP, hl]; simp only [Nat.add_zero, Nat.reduceAdd]; omega
    rw [ha, trV, if_neg h3, if_neg h4, if_pos h8]
    rfl
  · have ha : attrV (zs.drop 4) = (w2 zs 6, true) := by rw [attrV, if_neg h5, if_neg, w2_dropP]; rw [w2_dropP, w2_dropP, hl]; simp only [Nat.add_zero, Nat.reduceAdd]; omega
    rw [ha, trV, if_neg h3, if_neg h4, if_neg h8]
    rfl
/-- One step of the reader of transforms, by sections. -/
theorem trs_sec (ys : List Int) (h : ys.length ≠ 0) : trsV ys = match secV 3 ys with
  | none => none
  | some x => match trV x.1 with
    | none => none
    | some t => (trsV (ys.drop x.2)).map (t :: ·) := by
  rw [trsV_step ys h]
  rcases hs : secV 3 ys with _ | ⟨zs, L⟩
  · simp only
    by_cases h8 : ys.length < 8
    · rw [if_pos h8]
    rw [if_neg h8]
    by_cases h9 : w2 ys 2 < 8 ∨ (ys.length : Int) < w2 ys 2
    · rw [if_pos h9]
    rw [if_neg h9]
    rcases secV_cases 3 ys with ⟨h2, h1⟩ | ⟨_, h2, h1⟩ | ⟨_, _, h2, h1⟩ | ⟨h2, h3, h4, h1⟩
    · omega
    · omega
    · rw [if_pos (Or.inl h2)]
    · rw [h1] at hs; cases hs
  · have hi := secV_in hs
    have h1 := hi.len
    have h2 := hi.le
    simp only
    by_cases hz : zs.length < 4
    · have ht : trV zs = none := by unfold trV; rw [if_pos hz]
      rw [ht]
      simp only
      by_cases h8 : ys.length < 8
      · rw [if_pos h8]
      · rw [if_neg h8, hi.l, if_pos (by omega)]
    · have e0 : ¬ (ys.getD 0 0 ≠ if (ys.length : Int) = L then 0 else 3) := Decidable.not_not.2 hi.x0
      have e1 : (ys.drop 8).take (L - 8) = zs.drop 4 := by
        rw [hi.zs, List.drop_drop, List.drop_take]
      have e2 : zs.getD 0 0 = ys.getD 4 0 := by rw [hi.zs, getD_inside _ _ _ (by omega)]
      have e3 : w2 zs 2 = w2 ys 6 := by rw [hi.zs, w2_inside _ _ _ (by omega)]
      rw [if_neg (by omega), hi.l, if_neg (by omega), Int.toNat_natCast, trV_attr zs (by omega), e1, e2, e3]
      by_cases ha : (attrV (zs.drop 4)).2 = false
      · rw [if_pos (Or.inr ha), if_pos ha]
      · rw [if_neg (fun h => h.elim e0 ha), if_neg ha]

/-- What transforms returns. -/
def GotTs (w : World) (k : Nat) (r : Option (List Tr)) (e : Ending) (w' : World) : Prop :=
  w.grownBy w' (some k) ∧ match r with
  | none => Thrown e
  | some l => ∃ v, e = .returned v ∧ RowG KTr NTr w' w.heap.size v l
theorem gotts_none {w : World} {k : Nat} {r : Option (List Tr)} {e : Ending} {w' : World} (hg : w.grownBy w' (some k)) (hr : r = none) (ht : Thrown e) : GotTs w k r e w' := by
  subst hr
  exact ⟨hg, ht⟩
theorem grown_own4 {a b c : World} {row row' : Option Nat} (h : a.grownBy b row) (k : b.grownBy c row') (hR : ∀ r, row' = some r → a.heap.size ≤ r) : a.grownBy c row :=
  ⟨k.os.trans h.os, k.tape.trans h.tape, k.output.trans h.output, Nat.le_trans h.size k.size, fun i hi hne => (k.block i (Nat.lt_of_lt_of_le hi h.size) (fun e => by have := hR i e.symm; omega)).trans (h.block i hi hne)⟩
theorem map_none_app {α : Type} (l : List α) (o : Option (List α)) (r : Option (List α)) (h : o.map (l ++ ·) = r) (ho : o = none) : r = none := by
  subst ho
  exact h.symm

end Go.Proofs.Ytnnbfhjbaagnkaa

namespace Go.Proofs.Ytnnbfhjbaagnkaa
open Go.RowKit
set_option linter.unusedVariables false

/-- A proposal in a block of the call's own. -/
structure PrIn (w : World) (g : Nat) (n p : Int) (s t : Value) : Prop where
  c0 : w.cell? ⟨g, 0, none⟩ = some (.int .i64 n)
  c1 : w.cell? ⟨g, 1, none⟩ = some (.int .i64 p)
  c2 : w.cell? ⟨g, 2, none⟩ = some s
  c3 : w.cell? ⟨g, 3, none⟩ = some t
  fr : ∀ j, w.frozen? ⟨g, j, none⟩ = false
section
variable {w w' : World} {g : Nat} {n p : Int} {s t : Value}
theorem PrIn.lt (h : PrIn w g n p s t) : g < w.heap.size := World.block_lt_of_cell? w _ h.c0
theorem PrIn.grown {row : Option Nat} (h : PrIn w g n p s t) (hg : w.grownBy w' row) (hne : some g ≠ row) : PrIn w' g n p s t :=
  ⟨hg.cell h.c0 hne, hg.cell h.c1 hne, hg.cell h.c2 hne, hg.cell h.c3 hne, fun j => (World.frozen?_of_block (a := ⟨g, j, none⟩) (hg.block g h.lt hne)).trans (h.fr j)⟩
theorem PrIn.below (h : PrIn w g n p s t) (hb : Below w.heap.size w w') : PrIn w' g n p s t := h.grown (row := none) (grown_of_below hb none) (by simp)
theorem PrIn.set0 (h : PrIn w g n p s t) (v : Int) : PrIn (w.setCell ⟨g, 0, none⟩ (.int .i64 v)) g v p s t := by
  obtain ⟨c0, c1, c2, c3, fr⟩ := h
  exact ⟨by go_simp, by go_simp, by go_simp, by go_simp, fun j => by rw [World.frozen?_setCell]; exact fr j⟩
theorem PrIn.set1 (h : PrIn w g n p s t) (v : Int) : PrIn (w.setCell ⟨g, 1, none⟩ (.int .i64 v)) g n v s t := by
  obtain ⟨c0, c1, c2, c3, fr⟩ := h
  exact ⟨by go_simp, by go_simp, by go_simp, by go_simp, fun j => by rw [World.frozen?_setCell]; exact fr j⟩
theorem PrIn.set2 (h : PrIn w g n p s t) (q : Option Addr) (m d : Nat) : PrIn (w.setCell ⟨g, 2, none⟩ (.slice q m d)) g n p (.slice q m d) t := by
  obtain ⟨c0, c1, c2, c3, fr⟩ := h
  exact ⟨by go_simp, by go_simp, by go_simp, by go_simp, fun j => by rw [World.frozen?_setCell]; exact fr j⟩
theorem PrIn.set3 (h : PrIn w g n p s t) (q : Option Addr) (m d : Nat) : PrIn (w.setCell ⟨g, 3, none⟩ (.slice q m d)) g n p s (.slice q m d) := by
  obtain ⟨c0, c1, c2, c3, fr⟩ := h
  exact ⟨by go_simp, by go_simp, by go_simp, by go_simp, fun j => by rw [World.frozen?_setCell]; exact fr j⟩
theorem PrIn.new (w : World) (n p : Int) (q : Option Addr) (m d : Nat) (q' : Option Addr) (m' d' : Nat) (T : TypeId) : PrIn (w.alloc (.cells #[.int .i64 n, .int .i64 p, .slice q m d, .slice q' m' d'] T)) w.heap.size n p (.slice q m d) (.slice q' m' d') :=
  ⟨by go_simp, by go_simp, by go_simp, by go_simp, fun j => by go_simp⟩
end
theorem load_pr {w : World} {g : Nat} {n p : Int} {s t : Value} (h : PrIn w g n p s t) : (loadVar 74 ⟨g, 0, none⟩).run Try.prog w = .ok (.agg #[.int .i64 n, .int .i64 p, s, t]) w := by
  obtain ⟨c0, c1, c2, c3, fr⟩ := h
  simp [loadVar, go_sem, c0, c1, c2, c3, Result.andThen]
theorem ret_pr {fn : Func} {R : Ending → World → Prop} {a : Act} {w : World} {p : Nat} {g : Nat} {x y : Int} {s t : Value} (h : fn.results = #[.cell p 74]) (hp : a.tmps.getD p undef = .pointer (some ⟨g, 0, none⟩)) (hd : a.defers = [])
    (hh : PrIn w g x y s t) (hR : R (.returned (.agg #[.int .i64 x, .int .i64 y, s, t])) w) : bodyPost Try.prog fn R .ret a w := by
  refine bodyPost_ret (v := .agg #[.int .i64 x, .int .i64 y, s, t]) ?_ hd hR
  rw [Array.getD_eq_getD_getElem?] at hp
  simp [results, h, hp, asAddr, load_pr hh]

/-- The inside of a proposal. -/
def prV (zs : List Int) : Option Pr :=
  if zs.length < 4 then none else if (zs.length : Int) < 4 + zs.getD 2 0 then none
  else match trsV (zs.drop (4 + (zs.getD 2 0).toNat)) with
  | none => none
  | some ts => if (ts.length : Int) ≠ zs.getD 3 0 then none else some ⟨zs.getD 0 0, zs.getD 1 0, (zs.drop 4).take (zs.getD 2 0).toNat, ts⟩
theorem prs_sec (ys : List Int) (hr : ∀ x ∈ ys, 0 ≤ x ∧ x ≤ 255) (h : ys.length ≠ 0) : prsV ys = match secV 2 ys with
  | none => none
  | some x => match prV x.1 with
    | none => none
    | some t => (prsV (ys.drop x.2)).map (t :: ·) := by
  rw [prsV_step ys h]
  rcases hs : secV 2 ys with _ | ⟨zs, L⟩
  · simp only
    by_cases h8 : ys.length < 8
    · rw [if_pos h8]
    rw [if_neg h8]
    by_cases h9 : w2 ys 2 < 8 ∨ (ys.length : Int) < w2 ys 2
    · rw [if_pos h9]
    rw [if_neg h9]
    rcases secV_cases 2 ys with ⟨h2, h1⟩ | ⟨_, h2, h1⟩ | ⟨_, _, h2, h1⟩ | ⟨h2, h3, h4, h1⟩
    · omega
    · omega
    · rw [if_pos (Or.inl h2)]
    · rw [h1] at hs; cases hs
  · have hi := secV_in hs
    have h1 := hi.len
    have h2 := hi.le
    simp only
    by_cases hz : zs.length < 4
    · have ht : prV zs = none := by unfold prV; rw [if_pos hz]
      rw [ht]
      simp only
      by_cases h8 : ys.length < 8
      · rw [if_pos h8]
      · rw [if_neg h8, hi.l, if_pos (by omega)]
    · have e0 : ¬ (ys.getD 0 0 ≠ if (ys.length : Int) = L then 0 else 2) := Decidable.not_not.2 hi.x0
      have b6 := rng_getD hr 6
      have e2 : zs.getD 0 0 = ys.getD 4 0 := by rw [hi.zs, getD_inside _ _ _ (by omega)]
      have e3 : zs.getD 1 0 = ys.getD 5 0 := by rw [hi.zs, getD_inside _ _ _ (by omega)]
      have e4 : zs.getD 2 0 = ys.getD 6 0 := by rw [hi.zs, getD_inside _ _ _ (by omega)]
      have e5 : zs.getD 3 0 = ys.getD 7 0 := by rw [hi.zs, getD_inside _ _ _ (by omega)]
      rw [if_neg (by omega), hi.l, if_neg (by omega), Int.toNat_natCast]
      unfold prV
      rw [if_neg hz, e2, e3, e4, e5]
      by_cases hb : (L : Int) < 8 + ys.getD 6 0
      · rw [if_pos (Or.inr hb), if_pos (by omega)]
      · rw [if_neg (fun h => h.elim e0 hb), if_neg (show ¬ (zs.length : Int) < 4 + ys.getD 6 0 by omega)]
        have e6 : (ys.take L).drop (8 + (ys.getD 6 0).toNat) = zs.drop (4 + (ys.getD 6 0).toNat) := by
          rw [hi.zs, List.drop_drop]
          congr 1
          omega
        have e7 : (ys.drop 8).take (ys.getD 6 0).toNat = (zs.drop 4).take (ys.getD 6 0).toNat := by
          rw [hi.zs, List.drop_drop, List.drop_take, List.take_take]
          congr 1
          omega
        rw [e6, e7]
        cases trsV (zs.drop (4 + (ys.getD 6 0).toNat)) with
        | none => rfl
        | some ts =>
          simp only
          split <;> rfl

theorem trs_few : ∀ (ys : List Int) (l : List Tr), trsV ys = some l → l.length ≤ ys.length := by
  suffices ∀ m (ys : List Int) (l : List Tr), ys.length ≤ m → trsV ys = some l → l.length ≤ ys.length from fun ys l h => this _ ys l (Nat.le_refl _) h
  intro m
  induction m with
  | zero =>
    intro ys l h0 h
    rw [trsV_nil _ (by omega)] at h
    simp at h
    subst h
    simp
  | succ m ih =>
    intro ys l h0 h
    by_cases hz : ys.length = 0
    · rw [trsV_nil _ hz] at h
      simp at h
      subst h
      simp
    rw [trs_sec _ hz] at h
    rcases hs : secV 3 ys with _ | ⟨zs, L⟩
    · rw [hs] at h; cases h
    rw [hs] at h
    simp only at h
    rcases ht : trV zs with _ | t
    · rw [ht] at h; cases h
    rw [ht] at h
    simp only at h
    have hl := secV_len hs
    rcases hn : trsV (ys.drop L) with _ | l'
    · rw [hn] at h; cases h
    rw [hn] at h
    simp at h
    subst h
    have := ih _ _ (by rw [List.length_drop]; omega) hn
    rw [List.length_drop] at this
    simp
    omega

/-- What proposal returns. -/
def GotPr (w : World) (k : Nat) (r : Option Pr) (e : Ending) (w' : World) : Prop :=
  w.grownBy w' (some k) ∧ match r with
  | none => Thrown e
  | some y => ∃ x : PrP, x.pr = y ∧ e = .returned (.agg #[.int .i64 x.n, .int .i64 x.p, .slice x.sp x.sn x.sc, .slice x.tp x.tn x.tc]) ∧ OkN w' w.heap.size x
theorem gotpr_none {w : World} {k : Nat} {r : Option Pr} {e : Ending} {w' : World} (hg : w.grownBy w' (some k)) (hr : r = none) (ht : Thrown e) : GotPr w k r e w' := by
  subst hr
  exact ⟨hg, ht⟩

/-- In the midst of proposal: what is read, and the two blocks of the result. -/
structure PrS (w w1 : World) (k : Nat) (p : Option Addr) (n c : Nat) (xs : List Int) (a : Nat) (x y : Int) (s t : Value) : Prop where
  ps : PS w1 k p n c xs a
  gr : w.grownBy w1 (some k)
  lk : k < w.heap.size
  sz : w.heap.size + 2 ≤ w1.heap.size
  rt : PrIn w1 w.heap.size 0 0 (.slice none 0 0) (.slice none 0 0)
  ru : PrIn w1 (w.heap.size + 1) x y s t
section
variable {w w1 w2 : World} {k : Nat} {p : Option Addr} {n c : Nat} {xs : List Int} {a b : Nat} {x y : Int} {s t : Value}
theorem PrS.step (h : PrS w w1 k p n c xs a x y s t) (hg : w1.grownBy w2 (some k)) (hp : PS w2 k p n c xs b) : PrS w w2 k p n c xs b x y s t :=
  ⟨hp, grown_trans h.gr hg, h.lk, Nat.le_trans h.sz hg.size, h.rt.grown hg (by have := h.lk; simp; omega), h.ru.grown hg (by have := h.lk; simp; omega)⟩
theorem PrS.below (h : PrS w w1 k p n c xs a x y s t) (hb : Below w1.heap.size w1 w2) : PrS w w2 k p n c xs a x y s t := h.step (grown_of_below hb _) (h.ps.below hb)
theorem PrS.set (h : PrS w w1 k p n c xs a x y s t) (j : Nat) (v : Value) {x' y' : Int} {s' t' : Value} (hu : PrIn (w1.setCell ⟨w.heap.size + 1, j, none⟩ v) (w.heap.size + 1) x' y' s' t') : PrS w (w1.setCell ⟨w.heap.size + 1, j, none⟩ v) k p n c xs a x' y' s' t' :=
  ⟨h.ps.off (grown_set _ _ _ _) (fun r hr => by cases hr; have := h.lk; omega), grown_set_new h.gr _ _ _ (by omega), h.lk, Nat.le_trans h.sz (grown_set _ _ _ _).size, h.rt.grown (grown_set _ _ _ _) (by simp), hu⟩
end
/-- A call that throws, in a region that draws its order: nothing follows. -/
theorem thrown_in {P : Program} {G : Prop} (w : World) (h : G) (d : wpAny P .any #[] (fun _ _ _ => True) 0 #[] { tmps := #[], defers := [] } w) : G := h

end Go.Proofs.Ytnnbfhjbaagnkaa
