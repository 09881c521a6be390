/-
  The cursor that package proposal reads with: a field behind the other; one that is missing is thrown.
  What package proposal reads of a section and of a transform, or throws.
  What package proposal reads of the inside of a transform, or throws.
-/
import Derived.Test.YtkniifopfgeopaaGreatJZ4
import Derived.Test.YtkniifopfgeopaaGreatJZ0
import Derived.Test.YtkniifopfgeopaaGreatJZ3
import Derived.WalkLawsBesides
import Derived.Deep.QuietTactic
import Derived.BigQuiet
import Derived.Deep.RegionLaw
namespace Go.Proofs.YtkniifopfgeopaaGreat
open Go.RowKit
set_option linter.unusedVariables false

/-- What need throws. -/
def Thrown (e : Ending) : Prop := e = .panicked [{ v := .iface 28 (.int .i64 4), recovered := false }]

theorem need_yes (w : World) : Calls Tryz.prog 130 #[.bool true] w fun e w' => e = .returned (.tuple #[]) ∧ w = w' := by
  go_enter Tryz.func130, Tryz.ntmps130
  go_wp2
  go_end0
  exact ⟨rfl, rfl⟩
theorem need_no (w : World) : Calls Tryz.prog 130 #[.bool false] w fun e w' => Thrown e ∧ w = w' := by
  go_enter Tryz.func130, Tryz.ntmps130
  go_wp2
  exact ⟨rfl, rfl, rfl⟩
theorem need_any (w : World) (b : Bool) : Calls Tryz.prog 130 #[.bool b] w fun e w' => w = w' ∧ (b = true ∧ e = .returned (.tuple #[]) ∨ b = false ∧ Thrown e) := by
  cases b
  · exact (need_no w).mono (fun e w' ⟨h, h2⟩ => ⟨h2, Or.inr ⟨rfl, h⟩⟩)
  · exact (need_yes w).mono (fun e w' ⟨h, h2⟩ => ⟨h2, Or.inl ⟨rfl, h⟩⟩)
theorem mark_any (more : Int) (b : Bool) (w : World) : Calls Tryz.prog 82 #[.int .i64 more, .bool b] w fun e w' => e = .returned (.int .i64 (if b = true then more else 0)) ∧ w = w' := by
  cases b
  all_goals
    go_enter Tryz.func82, Tryz.ntmps82
    go_wp2
    go_ret
    exact ⟨rfl, rfl⟩

/-- The cursor at block k: its bytes, its place. -/
structure Cu (w : World) (k : Nat) (p : Option Addr) (n c : Nat) (a : Int) : Prop where
  c0 : w.cell? ⟨k, 0, none⟩ = some (.slice p n c)
  c1 : w.cell? ⟨k, 1, none⟩ = some (.int .i64 a)
  fr : ∀ j, w.frozen? ⟨k, j, none⟩ = false
theorem Cu.lt {w : World} {k : Nat} {p : Option Addr} {n c : Nat} {a : Int} (h : Cu w k p n c a) : k < w.heap.size := World.block_lt_of_cell? w _ h.c0
theorem Cu.grown {w w' : World} {k : Nat} {p : Option Addr} {n c : Nat} {a : Int} {row : Option Nat} (h : Cu w k p n c a) (hg : w.grownBy w' row) (hne : some k ≠ row) : Cu w' k p n c a :=
  ⟨hg.cell h.c0 hne, hg.cell h.c1 hne, fun j => (World.frozen?_of_block (a := ⟨k, j, none⟩) (hg.block k h.lt hne)).trans (h.fr j)⟩
theorem Cu.below {w w' : World} {k : Nat} {p : Option Addr} {n c : Nat} {a : Int} (h : Cu w k p n c a) (hb : Below w.heap.size w w') : Cu w' k p n c a := h.grown (row := none) (grown_of_below hb none) (by simp)
theorem Cu.alloc {w : World} {k : Nat} {p : Option Addr} {n c : Nat} {a : Int} (h : Cu w k p n c a) (o : Obj) : Cu (w.alloc o) k p n c a := h.below ((Below.refl _ _).alloc (Nat.le_refl _) o)
theorem Cu.set_ne {w : World} {k : Nat} {p : Option Addr} {n c : Nat} {a : Int} (h : Cu w k p n c a) (g j : Nat) (v : Value) (hne : k ≠ g) : Cu (w.setCell ⟨g, j, none⟩ v) k p n c a := h.grown (grown_set w g j v) (by simp; exact hne)
theorem Cu.step {w : World} {k : Nat} {p : Option Addr} {n c : Nat} {a : Int} (h : Cu w k p n c a) (z : Int) : Cu (w.setCell ⟨k, 1, none⟩ (.int .i64 z)) k p n c z := by
  obtain ⟨c0, c1, fr⟩ := h
  exact ⟨by go_simp, by go_simp, fun j => by rw [World.frozen?_setCell]; exact fr j⟩
theorem Cu.new (w : World) (p : Option Addr) (n c : Nat) (a : Int) (T : TypeId) : Cu (w.alloc (.cells #[.slice p n c, .int .i64 a] T)) w.heap.size p n c a :=
  ⟨by go_simp, by go_simp, fun j => by go_simp⟩
/-- Writing a block that is new since. -/
theorem grown_new {a b c : World} {row : Option Nat} {R : Nat} (h : a.grownBy b row) (k : b.grownBy c (some R)) (hR : a.heap.size ≤ R) : a.grownBy c row :=
  ⟨k.os.trans h.os, k.tape.trans h.tape, k.output.trans h.output, Nat.le_trans h.size k.size, fun i hi hne => (k.block i (Nat.lt_of_lt_of_le hi h.size) (by simp; omega)).trans (h.block i hi hne)⟩

/-- A number of one or two bytes at a place. -/
def numP (xs : List Int) (a d : Nat) : Int := val ((xs.drop a).take d)
theorem num_one (xs : List Int) (a : Nat) (h : a < xs.length) : numP xs a 1 = xs.getD a 0 := by
  rw [numP, show (xs.drop a).take 1 = [xs.getD a 0] by
    apply List.ext_getElem
    · simp; omega
    · intro i h1 h2
      have : i = 0 := by simp at h2; omega
      subst this
      simp [List.getD_eq_getElem?_getD, List.getElem?_eq_getElem h]]
  simp [val]
theorem num_two (xs : List Int) (a : Nat) (h : a + 2 ≤ xs.length) : numP xs a 2 = w2 xs a := by
  have e : (xs.drop a).take 2 = [xs.getD a 0, xs.getD (a + 1) 0] := by
    apply List.ext_getElem
    · simp; omega
    · intro i h1 h2
      have : i = 0 ∨ i = 1 := by simp at h2; omega
      rcases this with rfl | rfl <;> simp [List.getD_eq_getElem?_getD] <;> rw [List.getElem?_eq_getElem (by omega)] <;> rfl
  rw [numP, e, w2]
  simp [val]
theorem numP_bd {xs : List Int} (hr : ∀ x ∈ xs, 0 ≤ x ∧ x ≤ 255) (a d : Nat) (hd : d ≤ 2) : 0 ≤ numP xs a d ∧ numP xs a d ≤ 65535 := by
  have h1 := val_bd ((xs.drop a).take d) (rng_take (rng_drop hr _) _)
  have h2 := pow256_le (show ((xs.drop a).take d).length ≤ 2 by simp; omega)
  have h3 : (256 : Int) ^ 2 = 65536 := by decide
  unfold numP
  omega

set_option maxHeartbeats 400000 in
theorem left_any (p : Option Addr) (n c : Nat) (w : World) (k : Nat) (a : Int) (hc : Cu w k p n c a) (hn : n ≤ 9223372036854775807) (b : Bool) (hb : b = decide (a < n)) :
    Calls Tryz.prog 122 #[.pointer (some ⟨k, 0, none⟩)] w fun e w' => e = .returned (.bool b) ∧ Below w.heap.size w w' := by
  obtain ⟨c0, c1, fr⟩ := hc
  by_cases h : a < n
  all_goals
    go_enter Tryz.func122, Tryz.ntmps122
    go_wp2
    go_region
    go_wp2
    go_ret
    subst hb
    exact ⟨by simp [h], drew_below ⟨1, rfl⟩⟩

set_option maxHeartbeats 400000 in
theorem pnum_any (p : Option Addr) (n c : Nat) (xs : List Int) (w : World) (k a d : Nat) (hc : Cu w k p n c a) (h : Byt w p n c xs) (h1 : 1 ≤ d) (h8 : d ≤ 2) (ha : a ≤ n) (v : Int) (hv : numP xs a d = v) (D : Int) (hD : D = d) :
    Calls Tryz.prog 128 #[.pointer (some ⟨k, 0, none⟩), .int .i64 D] w fun e w' => w.grownBy w' (some k) ∧ ((a + d ≤ n ∧ e = .returned (.int .i64 v) ∧ Cu w' k p n c ((a + d : Nat) : Int)) ∨ (n < a + d ∧ Thrown e)) := by
  subst hD
  have hle := h.le
  have hvb := numP_bd h.rng a d h8
  rw [hv] at hvb
  have HC := hidden hc
  obtain ⟨c0, c1, fr⟩ := hc
  by_cases hin : a + d ≤ n
  · have E1 := hidden (fun m => (number_yes p n c xs (w.drewN m) (h.below (drew_below ⟨m, rfl⟩)) a d h1 (by omega) hin).mono (R' := fun e w' => e = .returned (.tuple #[.int .u64 v, .bool true]) ∧ w' = w.drewN m) (fun e w' ⟨x, y⟩ => ⟨by rw [x]; simp only [numP] at hv; rw [hv], y.symm⟩))
    clear h hv
    go_enter Tryz.func128, Tryz.ntmps128
    go_wp2
    go_quiet ((go_at_call 51; (with_reducible exact Calls.quiet_of_same (E1.out _))))
    go_wp2_with (go_at_call 130; (with_reducible refine (need_yes _).mono ?_); rintro e w' ⟨rfl, rfl⟩)
    go_ret
    refine ⟨grown_trans (grown_drewN _ _ _) (grown_set _ k 1 _), Or.inl ⟨hin, rfl, ?_⟩⟩
    have := (HC.out.below (drew_below (B := w.heap.size) ⟨nq, rfl⟩)).step ((a : Int) + d)
    exact this
  · have hnum : numR xs a d = (0, false) := by rw [numR, if_neg (by have := h.len; omega)]
    have E1 := hidden (fun m => (number_any p n c xs (w.drewN m) (h.below (drew_below ⟨m, rfl⟩)) a d (by omega) (by omega)).mono (R' := fun e w' => e = .returned (.tuple #[.int .u64 0, .bool false]) ∧ w' = w.drewN m) (fun e w' ⟨x, y⟩ => ⟨by rw [x, hnum], y.symm⟩))
    clear h hv hnum
    go_enter Tryz.func128, Tryz.ntmps128
    go_wp2
    go_quiet ((go_at_call 51; (with_reducible exact Calls.quiet_of_same (E1.out _))))
    go_wp2_with (go_at_call 130; (with_reducible refine (need_no _).mono ?_); rintro e w' ⟨rfl, rfl⟩)
    exact ⟨rfl, grown_drewN _ _ _, Or.inr ⟨by omega, rfl⟩⟩

set_option maxHeartbeats 800000 in
theorem ptake_any (p : Option Addr) (n c : Nat) (xs : List Int) (w : World) (k a : Nat) (hc : Cu w k p n c a) (h : Byt w p n c xs) (hb : n ≤ 140737488355328) (ha : a ≤ n) (M : Int) (hM : -9223372036854775808 ≤ M ∧ M ≤ 9223372036854775807) :
    Calls Tryz.prog 129 #[.pointer (some ⟨k, 0, none⟩), .int .i64 M] w fun e w' => w.grownBy w' (some k) ∧ ((0 ≤ M ∧ a + M ≤ n ∧ ∃ q m d, e = .returned (.slice q m d) ∧ Bod w' w.heap.size q m d ((xs.drop a).take M.toNat) ∧ Cu w' k p n c (a + M)) ∨ (¬ (0 ≤ M ∧ a + M ≤ n) ∧ Thrown e)) := by
  have hle := h.le
  have hlen := h.len
  have HC := hidden hc
  obtain ⟨c0, c1, fr⟩ := hc
  have HX := hidden h
  have E1 := hidden (fun (w : World) (h : Byt w p n c xs) => slice_bod p n c xs w h hb a M (by omega) hM)
  by_cases hin : 0 ≤ M ∧ a + M ≤ n
  · have hp : pieceR xs a M = ((xs.drop a).take M.toNat, true) := by
      rw [pieceR, if_pos (by omega), Int.toNat_natCast]
    have HP := hidden hp
    obtain ⟨hM0, hM1⟩ := hin
    have HXD : Hid (Byt w.drew p n c xs) := hidden (HX.out.below (drew_below ⟨1, rfl⟩))
    have E2 := hidden (E1.out w.drew HXD.out)
    clear h hp
    go_enter Tryz.func129, Tryz.ntmps129
    go_wp2
    go_region_law ((go_simp; go_at_call 69; (with_reducible refine (E2.out).mono ?_); rintro e wA ⟨q, m, d, rfl, hby, hbel⟩))
    all_goals
      rw [HP.out] at hby
      have hg : w.grownBy wA (some k) := grown_trans (grown_drewN w 1 _) (grown_of_below hbel _)
      have HCA : Hid (Cu wA k p n c a) := hidden ((HC.out.below (w' := w.drew) (drew_below ⟨1, rfl⟩)).below hbel)
      have c0 := HCA.out.c0
      have c1 := HCA.out.c1
      have fr := HCA.out.fr
      rw [HP.out]
      go_wp2_with (go_at_call 130; (with_reducible refine (need_yes _).mono ?_); rintro e w' ⟨rfl, rfl⟩)
      go_ret
      refine ⟨grown_trans hg (grown_set _ k 1 _), Or.inl ⟨hM0, hM1, q, m, d, rfl, (hby.mono (by simp)).grown (grown_set _ k 1 _) (OffB.low (by have := HC.out.lt; omega)), HCA.out.step _⟩⟩
  · have hp : pieceR xs a M = ([], false) := by
      rw [pieceR, if_neg (by omega)]
    have HP := hidden hp
    have HXD : Hid (Byt w.drew p n c xs) := hidden (HX.out.below (drew_below ⟨1, rfl⟩))
    have E2 := hidden (E1.out w.drew HXD.out)
    have HIN := hidden hin
    clear h hp hin
    go_enter Tryz.func129, Tryz.ntmps129
    go_wp2
    go_region_law ((go_simp; go_at_call 69; (with_reducible refine (E2.out).mono ?_); rintro e wA ⟨q, m, d, rfl, hby, hbel⟩))
    all_goals
      have hg : w.grownBy wA (some k) := grown_trans (grown_drewN w 1 _) (grown_of_below hbel _)
      rw [HP.out]
      go_wp2_with (go_at_call 130; (with_reducible refine (need_no _).mono ?_); rintro e w' ⟨rfl, rfl⟩)
      exact ⟨rfl, hg, Or.inr ⟨HIN.out, rfl⟩⟩
end Go.Proofs.YtkniifopfgeopaaGreat

namespace Go.Proofs.YtkniifopfgeopaaGreat
open Go.RowKit
set_option linter.unusedVariables false

/-- A parser at block k: its bytes, and how many of them are read. -/
structure PS (w : World) (k : Nat) (p : Option Addr) (n c : Nat) (xs : List Int) (a : Nat) : Prop where
  cu : Cu w k p n c a
  byt : ∃ W, Byt W p n c xs ∧ Below W.heap.size W w ∧ W.heap.size ≤ k
  le : a ≤ n
section
variable {w w' : World} {k : Nat} {p : Option Addr} {n c : Nat} {xs : List Int} {a b : Nat}
theorem PS.here (h : PS w k p n c xs a) : Byt w p n c xs := by
  obtain ⟨W, h1, h2, _⟩ := h.byt
  exact h1.below h2
theorem PS.next (h : PS w k p n c xs a) (hg : w.grownBy w' (some k)) (hc : Cu w' k p n c (b : Nat)) (hb : b ≤ n) : PS w' k p n c xs b := by
  obtain ⟨W, h1, h2, h3⟩ := h.byt
  exact ⟨hc, ⟨W, h1, h2.grown hg h2.size (fun r hr => by cases hr; exact h3), h3⟩, hb⟩
theorem PS.off {row : Option Nat} (h : PS w k p n c xs a) (hg : w.grownBy w' row) (hr : ∀ r, row = some r → k < r) : PS w' k p n c xs a := by
  obtain ⟨W, h1, h2, h3⟩ := h.byt
  exact ⟨h.cu.grown hg (fun e => by have := hr k e.symm; omega), ⟨W, h1, h2.grown hg h2.size (fun r e => by have := hr r e; omega), h3⟩, h.le⟩
theorem PS.below (h : PS w k p n c xs a) (hb : Below w.heap.size w w') : PS w' k p n c xs a := h.off (row := none) (grown_of_below hb none) (by simp)
theorem PS.lt (h : PS w k p n c xs a) : k < w.heap.size := h.cu.lt
end

theorem pn1 (p : Option Addr) (n c : Nat) (xs : List Int) (w : World) (k a : Nat) (h : PS w k p n c xs a) (v : Int) (hv : xs.getD a 0 = v) :
    Calls Tryz.prog 128 #[.pointer (some ⟨k, 0, none⟩), .int .i64 1] w fun e w' => w.grownBy w' (some k) ∧ ((a + 1 ≤ n ∧ e = .returned (.int .i64 v) ∧ PS w' k p n c xs (a + 1)) ∨ (n < a + 1 ∧ Thrown e)) := by
  refine (pnum_any p n c xs w k a 1 h.cu h.here (by omega) (by omega) h.le _ rfl 1 rfl).mono ?_
  rintro e w' ⟨hg, ⟨h1, rfl, hc⟩ | ⟨h1, ht⟩⟩
  · exact ⟨hg, Or.inl ⟨h1, by rw [num_one _ _ (by have := h.here.len; omega), hv], h.next hg hc h1⟩⟩
  · exact ⟨hg, Or.inr ⟨h1, ht⟩⟩
theorem pn2 (p : Option Addr) (n c : Nat) (xs : List Int) (w : World) (k a : Nat) (h : PS w k p n c xs a) (v : Int) (hv : w2 xs a = v) :
    Calls Tryz.prog 128 #[.pointer (some ⟨k, 0, none⟩), .int .i64 2] w fun e w' => w.grownBy w' (some k) ∧ ((a + 2 ≤ n ∧ e = .returned (.int .i64 v) ∧ PS w' k p n c xs (a + 2)) ∨ (n < a + 2 ∧ Thrown e)) := by
  refine (pnum_any p n c xs w k a 2 h.cu h.here (by omega) (by omega) h.le _ rfl 2 rfl).mono ?_
  rintro e w' ⟨hg, ⟨h1, rfl, hc⟩ | ⟨h1, ht⟩⟩
  · exact ⟨hg, Or.inl ⟨h1, by rw [num_two _ _ (by have := h.here.len; omega), hv], h.next hg hc h1⟩⟩
  · exact ⟨hg, Or.inr ⟨h1, ht⟩⟩
theorem pl (p : Option Addr) (n c : Nat) (xs : List Int) (w : World) (k a : Nat) (h : PS w k p n c xs a) (b : Bool) (hb : b = decide (a < n)) :
    Calls Tryz.prog 122 #[.pointer (some ⟨k, 0, none⟩)] w fun e w' => e = .returned (.bool b) ∧ Below w.heap.size w w' ∧ PS w' k p n c xs a :=
  (left_any p n c w k a h.cu h.here.le b (by rw [hb]; simp)).mono fun e w' ⟨h1, h2⟩ => ⟨h1, h2, h.below h2⟩
theorem pt (p : Option Addr) (n c : Nat) (xs : List Int) (w : World) (k a : Nat) (h : PS w k p n c xs a) (hn : n ≤ 140737488355328) (M : Int) (hM : -9223372036854775808 ≤ M ∧ M ≤ 9223372036854775807) :
    Calls Tryz.prog 129 #[.pointer (some ⟨k, 0, none⟩), .int .i64 M] w fun e w' => w.grownBy w' (some k) ∧ ((0 ≤ M ∧ a + M ≤ n ∧ ∃ q m d, e = .returned (.slice q m d) ∧ Bod w' w.heap.size q m d ((xs.drop a).take M.toNat) ∧ PS w' k p n c xs (a + M.toNat)) ∨ (¬ (0 ≤ M ∧ a + M ≤ n) ∧ Thrown e)) := by
  refine (ptake_any p n c xs w k a h.cu h.here hn h.le M hM).mono ?_
  rintro e w' ⟨hg, ⟨h1, h2, q, m, d, he, hby, hc⟩ | ⟨h1, ht⟩⟩
  · exact ⟨hg, Or.inl ⟨h1, h2, q, m, d, he, hby, h.next hg (by rw [show ((a + M.toNat : Nat) : Int) = a + M by omega]; exact hc) (by omega)⟩⟩
  · exact ⟨hg, Or.inr ⟨h1, ht⟩⟩

/-- A section: its inside, and how many bytes it has. -/
def secV (more : Int) (ys : List Int) : Option (List Int × Nat) :=
  if ys.length < 4 then none else if w2 ys 2 < 4 ∨ (ys.length : Int) < w2 ys 2 then none
  else if ys.getD 0 0 ≠ (if (ys.length : Int) = w2 ys 2 then 0 else more) then none else some ((ys.take (w2 ys 2).toNat).drop 4, (w2 ys 2).toNat)

/-- What section returns. -/
def GotS (w : World) (k : Nat) (p : Option Addr) (n c : Nat) (xs : List Int) (a : Nat) (r : Option (List Int × Nat)) (e : Ending) (w' : World) : Prop :=
  w.grownBy w' (some k) ∧ match r with
  | none => Thrown e
  | some x => ∃ R q m d, e = .returned (.pointer (some ⟨R, 0, none⟩)) ∧ w.heap.size ≤ R ∧ PS w' R q m d x.1 0 ∧ PS w' k p n c xs (a + x.2)
theorem gots_none {w : World} {k : Nat} {p : Option Addr} {n c : Nat} {xs : List Int} {a : Nat} {r : Option (List Int × Nat)} {e : Ending} {w' : World} (hg : w.grownBy w' (some k)) (hr : r = none) (ht : Thrown e) : GotS w k p n c xs a r e w' := by
  subst hr
  exact ⟨hg, ht⟩

theorem getD_dropP (xs : List Int) (a b : Nat) : (xs.drop a).getD b 0 = xs.getD (a + b) 0 := by simp [List.getD_eq_getElem?_getD]
theorem w2_dropP (xs : List Int) (a b : Nat) : w2 (xs.drop a) b = w2 xs (a + b) := by rw [w2, getD_dropP, getD_dropP, w2, Nat.add_assoc]
theorem w2_bdP (xs : List Int) (hr : ∀ x ∈ xs, 0 ≤ x ∧ x ≤ 255) (a : Nat) : 0 ≤ w2 xs a ∧ w2 xs a ≤ 65535 := by
  have h0 := rng_getD hr a
  have h1 := rng_getD hr (a + 1)
  unfold w2
  omega

theorem secV_at (more : Int) (xs : List Int) (n a : Nat) (hl : xs.length = n) (L x0 : Int) (hL : w2 xs (a + 2) = L) (hx : xs.getD a 0 = x0) : secV more (xs.drop a) =
    if n - a < 4 then none else if L < 4 ∨ ((n - a : Nat) : Int) < L then none else if x0 ≠ (if ((n - a : Nat) : Int) = L then 0 else more) then none else some (((xs.drop a).take L.toNat).drop 4, L.toNat) := by
  subst hL hx hl
  have e : xs.getD a 0 = (xs.drop a).getD 0 0 := by rw [getD_dropP]; rfl
  rw [e]
  unfold secV
  rw [List.length_drop, w2_dropP]

set_option maxHeartbeats 800000 in
theorem section_any (more : Int) (p : Option Addr) (n c : Nat) (xs : List Int) (w : World) (k a : Nat) (h : PS w k p n c xs a) (hn : n ≤ 1048576) (r : Option (List Int × Nat)) (hr : secV more (xs.drop a) = r) :
    Calls Tryz.prog 123 #[.pointer (some ⟨k, 0, none⟩), .int .i64 more] w (GotS w k p n c xs a r) := by
  have hlen := h.here.len
  have hrng := h.here.rng
  have hd : (xs.drop a).length = n - a := by simp [hlen]
  have hle := h.le
  obtain ⟨L, hL⟩ : ∃ L, w2 xs (a + 2) = L := ⟨_, rfl⟩
  have hLb := w2_bdP xs hrng (a + 2)
  rw [hL] at hLb
  obtain ⟨x0, hx0⟩ : ∃ x0, xs.getD a 0 = x0 := ⟨_, rfl⟩
  have hxb := rng_getD hrng a
  rw [hx0] at hxb
  rw [secV_at more xs n a hlen L x0 hL hx0] at hr
  obtain ⟨x1, hx1⟩ : ∃ x1, xs.getD (a + 1) 0 = x1 := ⟨_, rfl⟩
  have HR := hidden hr
  have HP := hidden h
  have HX0 := hidden hx0
  have HX1 := hidden hx1
  have HL := hidden hL
  clear hr h hx0 hx1 hL hrng hlen hd
  go_enter Tryz.func123, Tryz.ntmps123
  go_wp2_with fail
  go_at_call 128
  (with_reducible refine (pn1 p n c xs w k a HP.out x0 HX0.out).mono ?_)
  rintro e w1 ⟨hg1, ⟨hi1, rfl, hps1⟩ | ⟨hi1, ht⟩⟩
  rotate_left
  · subst ht
    exact ⟨rfl, gots_none hg1 (by rw [← HR.out, if_pos (by omega)]) rfl⟩
  have HP1 := hidden hps1
  have HG1 := hidden hg1
  clear hps1 hg1
  go_wp2_with fail
  go_at_call 128
  (with_reducible refine (pn1 p n c xs w1 k (a + 1) HP1.out x1 HX1.out).mono ?_)
  rintro e w2 ⟨hg2, ⟨hi2, rfl, hps2⟩ | ⟨hi2, ht⟩⟩
  rotate_left
  · subst ht
    exact ⟨rfl, gots_none (grown_trans HG1.out hg2) (by rw [← HR.out, if_pos (by omega)]) rfl⟩
  have HP2 := hidden hps2
  have HG2 := hidden (grown_trans HG1.out hg2)
  clear hps2 hg2 HG1 HP1
  go_wp2_with fail
  go_at_call 128
  (with_reducible refine (pn2 p n c xs w2 k (a + 2) HP2.out L HL.out).mono ?_)
  rintro e w3 ⟨hg3, ⟨hi3, rfl, hps3⟩ | ⟨hi3, ht⟩⟩
  rotate_left
  · subst ht
    exact ⟨rfl, gots_none (grown_trans HG2.out hg3) (by rw [← HR.out, if_pos (by omega)]) rfl⟩
  have HP3 := hidden hps3
  have HG3 := hidden (grown_trans HG2.out hg3)
  clear hps3 hg3 HG2 HP2
  have HR4 := hidden HR.out
  have hr := HR.out
  rw [if_neg (by omega)] at hr
  have HR4 := hidden hr
  clear hr HR
  go_wp2_with fail
  go_at_call 129
  (with_reducible refine (pt p n c xs w3 k (a + 2 + 2) HP3.out (by omega) (L - 4) (by omega)).mono ?_)
  rintro e w4 ⟨hg4, ⟨hi4, hi5, q, m, d, rfl, hby, hps4⟩ | ⟨hi4, ht⟩⟩
  rotate_left
  · subst ht
    exact ⟨rfl, gots_none (grown_trans HG3.out hg4) (by rw [← HR4.out, if_pos (by omega)]) rfl⟩
  have hr := HR4.out
  rw [if_neg (by omega)] at hr
  obtain ⟨l, rfl⟩ := Int.eq_ofNat_of_zero_le hLb.1
  have e1 : ((xs.drop a).take l).drop 4 = (xs.drop (a + 2 + 2)).take ((l : Int) - 4).toNat := by
    rw [show ((l : Int) - 4).toNat = l - 4 by omega, List.drop_take, List.drop_drop]
  rw [Int.toNat_natCast, e1] at hr
  have hm := hby.byt.len
  have hq : PS (w4.alloc (.cells #[.slice q m d, .int .i64 0] 189)) w4.heap.size q m d ((xs.drop (a + 2 + 2)).take ((l : Int) - 4).toNat) 0 :=
    ⟨Cu.new _ _ _ _ _ _, ⟨w4, hby.byt, (Below.refl _ _).alloc (Nat.le_refl _) _, Nat.le_refl _⟩, Nat.zero_le _⟩
  have hp5 := hps4.below ((Below.refl _ _).alloc (Nat.le_refl _) (.cells #[.slice q m d, .int .i64 0] 189))
  rw [show a + 2 + 2 + ((l : Int) - 4).toNat = a + l by omega] at hp5
  have hg5 := grown_alloc_new (grown_trans HG3.out hg4) (.cells #[.slice q m d, .int .i64 0] 189)
  have hs5 : w.heap.size ≤ w4.heap.size := (grown_trans HG3.out hg4).size
  generalize (xs.drop (a + 2 + 2)).take ((l : Int) - 4).toNat = ys at hr hq
  have HQ := hidden hq
  have HP5 := hidden hp5
  have HG5 := hidden hg5
  have HR5 := hidden hr
  clear hq hp5 hg5 hr hby hps4 hg4 HG3 HP3 HR4 e1 hm
  obtain ⟨b, hb⟩ : ∃ b, b = decide (a + l < n) := ⟨_, rfl⟩
  have HB := hidden hb
  clear hb
  go_wp2_with fail
  go_at_call 122
  (with_reducible refine (pl p n c xs _ k (a + l) HP5.out b HB.out).mono ?_)
  rintro e w6 ⟨rfl, hb6, hp6⟩
  have HP6 := hidden hp6
  have HQ6 := hidden (HQ.out.below hb6)
  have HG6 := hidden (grown_trans HG5.out (grown_of_below hb6 _))
  clear hp6 hb6
  obtain ⟨mk, hmk⟩ : ∃ mk, (if b = true then more else 0) = mk := ⟨_, rfl⟩
  have HMK := hidden hmk
  clear hmk
  go_wp2_with (go_at_call 82; (with_reducible refine (mark_any more b _).mono ?_); rintro e w7 ⟨rfl, rfl⟩; rw [HMK.out])
  go_at_call 130
  (refine (need_any _ _).mono ?_)
  have hcond : (x0 == mk) = true ↔ ¬ x0 ≠ (if ((n - a : Nat) : Int) = l then 0 else more) := by
    rw [← HMK.out, HB.out]
    by_cases hh : a + l < n
    · rw [if_neg (show ¬ ((n - a : Nat) : Int) = l by omega)]
      simp [hh]
    · rw [if_pos (show ((n - a : Nat) : Int) = l by omega)]
      simp [hh]
  rintro e w8 ⟨rfl, ⟨ht, rfl⟩ | ⟨ht, hth⟩⟩
  · have hr := HR5.out
    rw [if_neg (hcond.1 ht)] at hr
    have HR6 := hidden hr
    clear hcond ht hr
    go_wp2
    go_ret
    rw [← HR6.out]
    exact ⟨HG6.out, _, q, m, d, rfl, hs5, HQ6.out, HP6.out⟩
  · subst hth
    refine ⟨rfl, gots_none HG6.out ?_ rfl⟩
    rw [← HR5.out, if_pos]
    intro h
    rw [hcond.2 (by simpa using h)] at ht
    cases ht
end Go.Proofs.YtkniifopfgeopaaGreat

namespace Go.Proofs.YtkniifopfgeopaaGreat
open Go.RowKit
set_option linter.unusedVariables false

/-- A transform in a block of the call's own. -/
structure TrIn (w : World) (g : Nat) (t i k : Int) : Prop where
  c0 : w.cell? ⟨g, 0, none⟩ = some (.int .i64 t)
  c1 : w.cell? ⟨g, 1, none⟩ = some (.int .i64 i)
  c2 : w.cell? ⟨g, 2, none⟩ = some (.int .i64 k)
  fr : ∀ j, w.frozen? ⟨g, j, none⟩ = false
section
variable {w w' : World} {g : Nat} {t i k : Int}
theorem TrIn.lt (h : TrIn w g t i k) : g < w.heap.size := World.block_lt_of_cell? w _ h.c0
theorem TrIn.grown {row : Option Nat} (h : TrIn w g t i k) (hg : w.grownBy w' row) (hne : some g ≠ row) : TrIn w' g t i k :=
  ⟨hg.cell h.c0 hne, hg.cell h.c1 hne, hg.cell h.c2 hne, fun j => (World.frozen?_of_block (a := ⟨g, j, none⟩) (hg.block g h.lt hne)).trans (h.fr j)⟩
theorem TrIn.below (h : TrIn w g t i k) (hb : Below w.heap.size w w') : TrIn w' g t i k := h.grown (row := none) (grown_of_below hb none) (by simp)
theorem TrIn.set0 (h : TrIn w g t i k) (v : Int) : TrIn (w.setCell ⟨g, 0, none⟩ (.int .i64 v)) g v i k := by
  obtain ⟨c0, c1, c2, fr⟩ := h
  exact ⟨by go_simp, by go_simp, by go_simp, fun j => by rw [World.frozen?_setCell]; exact fr j⟩
theorem TrIn.set1 (h : TrIn w g t i k) (v : Int) : TrIn (w.setCell ⟨g, 1, none⟩ (.int .i64 v)) g t v k := by
  obtain ⟨c0, c1, c2, fr⟩ := h
  exact ⟨by go_simp, by go_simp, by go_simp, fun j => by rw [World.frozen?_setCell]; exact fr j⟩
theorem TrIn.set2 (h : TrIn w g t i k) (v : Int) : TrIn (w.setCell ⟨g, 2, none⟩ (.int .i64 v)) g t i v := by
  obtain ⟨c0, c1, c2, fr⟩ := h
  exact ⟨by go_simp, by go_simp, by go_simp, fun j => by rw [World.frozen?_setCell]; exact fr j⟩
theorem TrIn.new (w : World) (t i k : Int) (T : TypeId) : TrIn (w.alloc (.cells #[.int .i64 t, .int .i64 i, .int .i64 k] T)) w.heap.size t i k :=
  ⟨by go_simp, by go_simp, by go_simp, fun j => by go_simp⟩
end
theorem load_tr {w : World} {g : Nat} {t i k : Int} (h : TrIn w g t i k) : (loadVar 112 ⟨g, 0, none⟩).run Tryz.prog w = .ok (.agg #[.int .i64 t, .int .i64 i, .int .i64 k]) w := by
  obtain ⟨c0, c1, c2, fr⟩ := h
  simp [loadVar, go_sem, c0, c1, c2, Result.andThen]
theorem ret_tr {fn : Func} {R : Ending → World → Prop} {a : Act} {w : World} {p : Nat} {g : Nat} {t i k : Int} (h : fn.results = #[.cell p 112]) (hp : a.tmps.getD p undef = .pointer (some ⟨g, 0, none⟩)) (hd : a.defers = [])
    (hh : TrIn w g t i k) (hR : R (.returned (.agg #[.int .i64 t, .int .i64 i, .int .i64 k])) w) : bodyPost Tryz.prog fn R .ret a w := by
  refine bodyPost_ret (v := .agg #[.int .i64 t, .int .i64 i, .int .i64 k]) ?_ hd hR
  rw [Array.getD_eq_getD_getElem?] at hp
  simp [results, h, hp, asAddr, load_tr hh]

/-- The inside of a transform. -/
def trV (zs : List Int) : Option Tr :=
  if zs.length < 4 then none else if zs.length = 4 then some ⟨zs.getD 0 0, w2 zs 2, 0⟩
  else if zs.length ≠ 8 ∨ w2 zs 4 ≠ 32782 ∨ w2 zs 6 = 0 then none else some ⟨zs.getD 0 0, w2 zs 2, w2 zs 6⟩
/-- What transform returns. -/
def GotTr (w : World) (k : Nat) (r : Option Tr) (e : Ending) (w' : World) : Prop :=
  w.grownBy w' (some k) ∧ match r with
  | none => Thrown e
  | some x => e = .returned (.agg #[.int .i64 x.t, .int .i64 x.i, .int .i64 x.k]) ∧ IntT x
theorem gottr_none {w : World} {k : Nat} {r : Option Tr} {e : Ending} {w' : World} (hg : w.grownBy w' (some k)) (hr : r = none) (ht : Thrown e) : GotTr w k r e w' := by
  subst hr
  exact ⟨hg, ht⟩
theorem intT_of {a b c : Int} (h1 : 0 ≤ a ∧ a ≤ 65535) (h2 : 0 ≤ b ∧ b ≤ 65535) (h3 : 0 ≤ c ∧ c ≤ 65535) : IntT ⟨a, b, c⟩ := by
  refine ⟨⟨?_, ?_⟩, ⟨?_, ?_⟩, ?_, ?_⟩ <;> simp only <;> omega
theorem gottr_some {w : World} {k : Nat} {r : Option Tr} {t i kk : Int} {w' : World} (hg : w.grownBy w' (some k)) (hr : r = some ⟨t, i, kk⟩) (h : IntT ⟨t, i, kk⟩) : GotTr w k r (.returned (.agg #[.int .i64 t, .int .i64 i, .int .i64 kk])) w' := by
  subst hr
  exact ⟨hg, rfl, h⟩

/-- In the midst of transform: what is read, and the two blocks of the result. -/
structure TS (w w1 : World) (k : Nat) (p : Option Addr) (n c : Nat) (xs : List Int) (a : Nat) (t i kk : Int) : Prop where
  ps : PS w1 k p n c xs a
  gr : w.grownBy w1 (some k)
  lk : k < w.heap.size
  rt : TrIn w1 w.heap.size 0 0 0
  ru : TrIn w1 (w.heap.size + 1) t i kk
section
variable {w w1 w2 : World} {k : Nat} {p : Option Addr} {n c : Nat} {xs : List Int} {a b : Nat} {t i kk : Int}
theorem TS.step (h : TS w w1 k p n c xs a t i kk) (hg : w1.grownBy w2 (some k)) (hp : PS w2 k p n c xs b) : TS w w2 k p n c xs b t i kk :=
  ⟨hp, grown_trans h.gr hg, h.lk, h.rt.grown hg (by have := h.lk; simp; omega), h.ru.grown hg (by have := h.lk; simp; omega)⟩
theorem TS.below (h : TS w w1 k p n c xs a t i kk) (hb : Below w1.heap.size w1 w2) : TS w w2 k p n c xs a t i kk := h.step (grown_of_below hb _) (h.ps.below hb)
theorem TS.set (h : TS w w1 k p n c xs a t i kk) (j : Nat) (v : Int) {t' i' k' : Int} (hu : TrIn (w1.setCell ⟨w.heap.size + 1, j, none⟩ (.int .i64 v)) (w.heap.size + 1) t' i' k') : TS w (w1.setCell ⟨w.heap.size + 1, j, none⟩ (.int .i64 v)) k p n c xs a t' i' k' :=
  ⟨h.ps.off (grown_set _ _ _ _) (fun r hr => by cases hr; have := h.lk; omega), grown_set_new h.gr _ _ _ (by omega), h.lk, h.rt.grown (grown_set _ _ _ _) (by simp), hu⟩
end

set_option maxHeartbeats 1600000 in
set_option maxRecDepth 100000 in
theorem transform_any (p : Option Addr) (n c : Nat) (xs : List Int) (w : World) (k : Nat) (h : PS w k p n c xs 0) (r : Option Tr) (hr : trV xs = r) :
    Calls Tryz.prog 132 #[.pointer (some ⟨k, 0, none⟩)] w (GotTr w k r) := by
  have hlen := h.here.len
  have hrng := h.here.rng
  have hnle := h.here.le
  unfold trV at hr
  rw [hlen] at hr
  obtain ⟨x0, hx0⟩ : ∃ x0, xs.getD 0 0 = x0 := ⟨_, rfl⟩
  obtain ⟨x1, hx1⟩ : ∃ x0, xs.getD 1 0 = x0 := ⟨_, rfl⟩
  obtain ⟨y2, hy2⟩ : ∃ x0, w2 xs 2 = x0 := ⟨_, rfl⟩
  obtain ⟨y4, hy4⟩ : ∃ x0, w2 xs 4 = x0 := ⟨_, rfl⟩
  obtain ⟨y6, hy6⟩ : ∃ x0, w2 xs 6 = x0 := ⟨_, rfl⟩
  have b0 := rng_getD hrng 0
  have b2 := w2_bdP xs hrng 2
  have b6 := w2_bdP xs hrng 6
  rw [hx0] at b0
  rw [hy2] at b2
  rw [hy6] at b6
  rw [hx0, hy2, hy4, hy6] at hr
  have HR := hidden hr
  have HX0 := hidden hx0
  have HX1 := hidden hx1
  have HY2 := hidden hy2
  have HY4 := hidden hy4
  have HY6 := hidden hy6
  have h0 : Below w.heap.size w ((w.alloc (.cells #[.int .i64 0, .int .i64 0, .int .i64 0] 112)).alloc (.cells #[.int .i64 0, .int .i64 0, .int .i64 0] 112)) := ((Below.refl _ w).alloc (Nat.le_refl _) _).alloc (by simp) _
  have HS0 : Hid (TS w ((w.alloc (.cells #[.int .i64 0, .int .i64 0, .int .i64 0] 112)).alloc (.cells #[.int .i64 0, .int .i64 0, .int .i64 0] 112)) k p n c xs 0 0 0 0) := hidden ⟨h.below h0, grown_of_below h0 (some k), h.lt, (TrIn.new w 0 0 0 112).below ((Below.refl _ _).alloc (Nat.le_refl _) _), by
    have := TrIn.new (w.alloc (.cells #[.int .i64 0, .int .i64 0, .int .i64 0] 112)) 0 0 0 112
    simpa using this⟩
  clear hr h hx0 hx1 hy2 hy4 hy6 hrng hlen h0
  go_enter Tryz.func132, Tryz.ntmps132
  go_wp2_with fail
  go_at_call 128
  (with_reducible refine (pn1 p n c xs _ k 0 HS0.out.ps x0 HX0.out).mono ?_)
  rintro e w1 ⟨hg1, ⟨hi1, rfl, hps1⟩ | ⟨hi1, ht⟩⟩
  rotate_left
  · subst ht
    exact ⟨rfl, gottr_none (grown_trans HS0.out.gr hg1) (by rw [← HR.out, if_pos (by omega)]) rfl⟩
  have HS1 := hidden (HS0.out.step hg1 hps1)
  clear HS0 hg1 hps1
  have HS2 := hidden (HS1.out.set 0 x0 (HS1.out.ru.set0 x0))
  have u1 := HS1.out.ru.c0
  have fr1 := HS1.out.ru.fr
  go_wp2_with fail
  clear u1 fr1
  go_at_call 128
  (with_reducible refine (pn1 p n c xs _ k 1 HS2.out.ps x1 HX1.out).mono ?_)
  rintro e w2 ⟨hg1, ⟨hi2, rfl, hps1⟩ | ⟨hi2, ht⟩⟩
  rotate_left
  · subst ht
    exact ⟨rfl, gottr_none (grown_trans HS2.out.gr hg1) (by rw [← HR.out, if_pos (by omega)]) rfl⟩
  have HS3 := hidden (HS2.out.step hg1 hps1)
  clear HS1 HS2 hg1 hps1
  go_wp2_with fail
  go_at_call 128
  (with_reducible refine (pn2 p n c xs _ k 2 HS3.out.ps y2 HY2.out).mono ?_)
  rintro e w3 ⟨hg1, ⟨hi3, rfl, hps1⟩ | ⟨hi3, ht⟩⟩
  rotate_left
  · subst ht
    exact ⟨rfl, gottr_none (grown_trans HS3.out.gr hg1) (by rw [← HR.out, if_pos (by omega)]) rfl⟩
  have HS4 := hidden (HS3.out.step hg1 hps1)
  clear HS3 hg1 hps1
  have HS5 := hidden (HS4.out.set 1 y2 (HS4.out.ru.set1 y2))
  have u1 := HS4.out.ru.c1
  have fr1 := HS4.out.ru.fr
  go_wp2_with fail
  clear u1 fr1
  have hr := HR.out
  rw [if_neg (by omega)] at hr
  have HR2 := hidden hr
  clear hr HR HS4
  obtain ⟨b, hb⟩ : ∃ b, b = decide (4 < n) := ⟨_, rfl⟩
  go_at_call 122
  (with_reducible refine (pl p n c xs _ k 4 HS5.out.ps b hb).mono ?_)
  rintro e w6 ⟨rfl, hb6, -⟩
  have HS6 := hidden (HS5.out.below hb6)
  clear hb6 HS5
  have HB := hidden hb
  clear hb
  by_cases h4 : n = 4
  · obtain rfl : b = false := by rw [HB.out]; simp; omega
    have hr := HR2.out
    rw [if_pos h4] at hr
    have HR3 := hidden hr
    clear hr HR2
    go_wp2_with fail
    go_at_call 122
    (with_reducible refine (pl p n c xs _ k 4 HS6.out.ps false HB.out).mono ?_)
    rintro e w7 ⟨rfl, hb7, -⟩
    have HS7 := hidden (HS6.out.below hb7)
    clear HS6 hb7
    have c0 := HS7.out.ru.c0
    have c1 := HS7.out.ru.c1
    have c2 := HS7.out.ru.c2
    have d0 := HS7.out.rt.c0
    have d1 := HS7.out.rt.c1
    have d2 := HS7.out.rt.c2
    have fr := HS7.out.rt.fr
    go_wp2_with (go_at_call 130; (with_reducible refine (need_yes _).mono ?_); rintro e w8 ⟨rfl, rfl⟩)
    refine ret_tr rfl rfl rfl (((HS7.out.rt.set0 x0).set1 y2).set2 0) (gottr_some ?_ HR3.out.symm (intT_of (by omega) b2 (by omega)))
    exact grown_set_new (grown_set_new (grown_set_new HS7.out.gr _ _ _ (Nat.le_refl _)) _ _ _ (Nat.le_refl _)) _ _ _ (Nat.le_refl _)
  · obtain rfl : b = true := by rw [HB.out]; simp; omega
    have hr := HR2.out
    rw [if_neg h4] at hr
    have HR3 := hidden hr
    clear hr HR2
    go_wp2_with fail
    go_at_call 128
    (with_reducible refine (pn2 p n c xs _ k 4 HS6.out.ps y4 HY4.out).mono ?_)
    rintro e w7 ⟨hg1, ⟨hi4, rfl, hps1⟩ | ⟨hi4, ht⟩⟩
    rotate_left
    · subst ht
      exact ⟨rfl, gottr_none (grown_trans HS6.out.gr hg1) (by rw [← HR3.out, if_pos (by omega)]) rfl⟩
    have HS7 := hidden (HS6.out.step hg1 hps1)
    clear HS6 hg1 hps1
    go_wp2_with fail
    go_at_call 130
    (refine (need_any _ _).mono ?_)
    rintro e w8 ⟨rfl, ⟨ht, rfl⟩ | ⟨ht, hth⟩⟩
    rotate_left
    · subst hth
      exact ⟨rfl, gottr_none HS7.out.gr (by rw [← HR3.out, if_pos (by simp at ht; omega)]) rfl⟩
    replace ht : y4 = 32782 := by simpa using ht
    have HE4 := hidden ht
    clear ht
    go_wp2_with fail
    go_at_call 128
    (with_reducible refine (pn2 p n c xs _ k 6 HS7.out.ps y6 HY6.out).mono ?_)
    rintro e w8 ⟨hg1, ⟨hi5, rfl, hps1⟩ | ⟨hi5, ht⟩⟩
    rotate_left
    · subst ht
      exact ⟨rfl, gottr_none (grown_trans HS7.out.gr hg1) (by rw [← HR3.out, if_pos (by omega)]) rfl⟩
    have HS8 := hidden (HS7.out.step hg1 hps1)
    clear HS7 hg1 hps1
    have HS9 := hidden (HS8.out.set 2 y6 (HS8.out.ru.set2 y6))
    have u1 := HS8.out.ru.c2
    have fr1 := HS8.out.ru.fr
    go_wp2_with fail
    clear u1 fr1
    go_at_call 130
    (refine (need_any _ _).mono ?_)
    rintro e w9 ⟨rfl, ⟨ht, rfl⟩ | ⟨ht, hth⟩⟩
    rotate_left
    · subst hth
      exact ⟨rfl, gottr_none HS9.out.gr (by rw [← HR3.out, if_pos (by simp at ht; omega)]) rfl⟩
    replace ht : y6 ≠ 0 := by simpa using ht
    have HE6 := hidden ht
    clear ht
    obtain ⟨b, hb⟩ : ∃ b, b = decide (8 < n) := ⟨_, rfl⟩
    have HB2 := hidden hb
    clear hb HS8
    go_wp2_with fail
    go_at_call 122
    (with_reducible refine (pl p n c xs _ k 8 HS9.out.ps b HB2.out).mono ?_)
    rintro e wA ⟨rfl, hb7, -⟩
    have HSA := hidden (HS9.out.below hb7)
    clear HS9 hb7
    go_wp2_with fail
    go_at_call 130
    (refine (need_any _ _).mono ?_)
    rintro e wB ⟨rfl, ⟨ht, rfl⟩ | ⟨ht, hth⟩⟩
    rotate_left
    · subst hth
      exact ⟨rfl, gottr_none HSA.out.gr (by rw [← HR3.out, if_pos (by have := HB2.out; simp at ht this; rw [ht] at this; simp at this; omega)]) rfl⟩
    have h8 : n = 8 := by have := HB2.out; simp at ht this; rw [ht] at this; simp at this; omega
    have H8 := hidden h8
    clear ht h8
    have c0 := HSA.out.ru.c0
    have c1 := HSA.out.ru.c1
    have c2 := HSA.out.ru.c2
    have d0 := HSA.out.rt.c0
    have d1 := HSA.out.rt.c1
    have d2 := HSA.out.rt.c2
    have fr := HSA.out.rt.fr
    have hr := HR3.out
    rw [if_neg (by have := H8.out; have := HE4.out; have := HE6.out; omega)] at hr
    have HR4 := hidden hr
    clear hr HR3
    go_wp2
    refine ret_tr rfl rfl rfl (((HSA.out.rt.set0 x0).set1 y2).set2 y6) (gottr_some ?_ HR4.out.symm (intT_of (by omega) b2 b6))
    exact grown_set_new (grown_set_new (grown_set_new HSA.out.gr _ _ _ (Nat.le_refl _)) _ _ _ (Nat.le_refl _)) _ _ _ (Nat.le_refl _)
end Go.Proofs.YtkniifopfgeopaaGreat
