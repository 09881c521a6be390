/-
  append(b, make([]byte, n)...) on a row of the call's own that is not empty: n zeros more.
  What package proposal writes of a section and of a transform.
  What wire.Slice returns, for every slice of bytes, place and length.
  The cursor that package proposal reads with: a field behind the other; one that is missing is thrown.
-/
import Derived.Test.YtbpmanbpmlkmnaaGreatDoorMZ0
import Derived.Test.YtbpmanbpmlkmnaaGreatDoorMZ1
import Derived.WalkLawsBesides
import Derived.Deep.QuietTactic
import Derived.BigQuiet
import Derived.Deep.RegionLaw
namespace Go.Proofs.YtbpmanbpmlkmnaaGreatDoor
open Go.RowKit

theorem zeros_list (n : Nat) : (Builtin.zeroCells (Value.int IntKind.u8 0).cells n).toList = (List.replicate n (0 : Int)).map (Value.int .u8) := by
  simp [Builtin.zeroCells, Value.cells]
  apply List.ext_getElem
  · simp
  · intro j h1 h2
    simp [Nat.mod_one]

section
variable {P : Program} (w : World)
end
end Go.Proofs.YtbpmanbpmlkmnaaGreatDoor

namespace Go.Proofs.YtbpmanbpmlkmnaaGreatDoor
open Go.RowKit
set_option linter.unusedVariables false

/-- Bytes of the call's own. -/
def OwnR (w : World) (m : Nat) (ys : List Int) (e : Ending) (w' : World) : Prop := ∃ q d, e = .returned (.slice q m d) ∧ Own w' w.heap.size 5 (.slice q m d) ys ∧ Byt w' q m d ys ∧ Below w.heap.size w w'
/-- The bytes of a section. -/
def secE (more : Int) (ys : List Int) : List Int := [more, 0] ++ (be 2 (4 + (ys.length : Int)) ++ ys)
/-- The inside of a transform, of a proposal. -/
def inT (x : Tr) : List Int := [x.t % 256, 0] ++ (be 2 x.i ++ (if x.k ≠ 0 then be 2 32782 ++ be 2 x.k else []))
def inP (p : Pr) : List Int := [p.n % 256, p.p % 256, (p.s.length : Int) % 256, (p.ts.length : Int) % 256] ++ (p.s ++ encTs p.ts)
theorem encT_sec (more : Int) (x : Tr) : encT more x = secE more (inT x) := by
  unfold encT secE inT lenT
  split <;> simp [be_len]
theorem encP_sec (more : Int) (p : Pr) : encP more p = secE more (inP p) := by
  unfold encP secE inP
  have e : 8 + (p.s.length : Int) + ((encTs p.ts).length : Int) = 4 + (([p.n % 256, p.p % 256, (p.s.length : Int) % 256, (p.ts.length : Int) % 256] ++ (p.s ++ encTs p.ts)).length : Int) := by
    simp
    omega
  rw [e]
theorem secE_rng (more : Int) (ys : List Int) (h0 : 0 ≤ more ∧ more ≤ 255) (h : ∀ x ∈ ys, 0 ≤ x ∧ x ≤ 255) : ∀ x ∈ secE more ys, 0 ≤ x ∧ x ≤ 255 := by
  refine rng_append ?_ (rng_append (be_rng _ _) h)
  intro z hz
  simp at hz
  omega

end Go.Proofs.YtbpmanbpmlkmnaaGreatDoor

namespace Go.Proofs.YtbpmanbpmlkmnaaGreatDoor
open Go.RowKit
set_option linter.unusedVariables false

/-- The result of a function that returns bytes and a bool. -/
def BytesOk (w : World) (r : List Int × Bool) (e : Ending) (w' : World) : Prop := ∃ p n c, e = .returned (.tuple #[.slice p n c, .bool r.2]) ∧ Byt w' p n c r.1 ∧ Below w.heap.size w w'

/-- The same; the bytes lie in a block of bytes of the call's own. -/
def BodOk (w : World) (r : List Int × Bool) (e : Ending) (w' : World) : Prop := ∃ p n c, e = .returned (.tuple #[.slice p n c, .bool r.2]) ∧ Bod w' w.heap.size p n c r.1 ∧ Below w.heap.size w w'

set_option maxHeartbeats 400000 in
theorem slice_bod (p : Option Addr) (n c : Nat) (xs : List Int) (w : World) (h : Byt w p n c xs) (hb : n ≤ 140737488355328) (a k : Int) (ha : -9223372036854775808 ≤ a ∧ a ≤ 9223372036854775807) (hk : -9223372036854775808 ≤ k ∧ k ≤ 9223372036854775807) :
    Calls Tryz.prog 75 #[.slice p n c, .int .i64 a, .int .i64 k] w (BodOk w (pieceR xs a k)) := by
  have hn := h.le
  by_cases hi : 0 ≤ a ∧ 0 ≤ k ∧ a + k ≤ n
  · obtain ⟨a, rfl⟩ := Int.eq_ofNat_of_zero_le hi.1
    obtain ⟨k, rfl⟩ := Int.eq_ofNat_of_zero_le hi.2.1
    have hin : a + k ≤ n := by omega
    have hcap := h.cap
    have hp := h.part a (a + k) (by omega) hin
    rw [pieceR, if_pos (by have := h.len; omega)]
    have e1 : (xs.take (a + k)).drop a = (xs.drop a).take k := by rw [List.drop_take]; congr 1; omega
    have hr : ∀ x ∈ (xs.drop a).take k, 0 ≤ x ∧ x ≤ 255 := rng_take (rng_drop h.rng _) _
    rw [e1] at hp
    rw [show a + k - a = k by omega] at hp
    have HR := hidden hr
    clear h hi e1 hr
    by_cases hca : c = a
    · subst hca
      obtain rfl : k = 0 := by omega
      rw [if_pos rfl, Nat.sub_self] at hp
      have HB := hidden hp
      clear hp
      go_enter Tryz.func75, Tryz.ntmps75
      go_wp2_with (first | (go_at_call 97; refine (inside_yes _ _ _ _ _ _ (by omega) (by omega) (by omega) (by omega)).mono ?_; rintro e w' ⟨rfl, rfl⟩))
      refine (clone_any _ _ _ _ _ HB.out (by omega)).mono ?_
      rintro e w' ⟨v, rfl, hown, hbel⟩
      go_wp2
      obtain ⟨p', c', rfl, hby⟩ := hown.bod rfl HR.out
      go_ret2
      exact ⟨p', _, c', rfl, hby, hbel⟩
    · rw [if_neg hca] at hp
      have HB := hidden hp
      clear hp
      go_enter Tryz.func75, Tryz.ntmps75
      go_wp2_with (first | (go_at_call 97; refine (inside_yes _ _ _ _ _ _ (by omega) (by omega) (by omega) (by omega)).mono ?_; rintro e w' ⟨rfl, rfl⟩) | (go_at_call 62; refine (clone_any _ _ _ _ _ HB.out (by omega)).mono ?_; rintro e w' ⟨v, rfl, hown, hbel⟩))
      obtain ⟨p', c', rfl, hby⟩ := hown.bod rfl HR.out
      go_ret2
      exact ⟨p', _, c', rfl, hby, hbel⟩
  · rw [pieceR, if_neg (by have := h.len; omega)]
    clear h
    go_enter Tryz.func75, Tryz.ntmps75
    go_wp2_with (first | (go_at_call 97; refine (inside_no _ _ _ _ _ _ (by omega) (by omega) (by omega)).mono ?_; rintro e w' ⟨rfl, rfl⟩))
    go_ret2
    exact ⟨_, _, _, rfl, Bod.nil _ _ _ _ (Nat.zero_le _), Below.refl _ _⟩

end Go.Proofs.YtbpmanbpmlkmnaaGreatDoor

namespace Go.Proofs.YtbpmanbpmlkmnaaGreatDoor
open Go.RowKit
set_option linter.unusedVariables false

/-- What need throws. -/
def Thrown (e : Ending) : Prop := e = .panicked [{ v := .iface 28 (.int .i64 4), recovered := false }]

theorem need_yes (w : World) : Calls Tryz.prog 130 #[.bool true] w fun e w' => e = .returned (.tuple #[]) ∧ w = w' := by
  go_enter Tryz.func130, Tryz.ntmps130
  go_wp2
  go_end0
  exact ⟨rfl, rfl⟩
theorem need_no (w : World) : Calls Tryz.prog 130 #[.bool false] w fun e w' => Thrown e ∧ w = w' := by
  go_enter Tryz.func130, Tryz.ntmps130
  go_wp2
  exact ⟨rfl, rfl, rfl⟩
theorem need_any (w : World) (b : Bool) : Calls Tryz.prog 130 #[.bool b] w fun e w' => w = w' ∧ (b = true ∧ e = .returned (.tuple #[]) ∨ b = false ∧ Thrown e) := by
  cases b
  · exact (need_no w).mono (fun e w' ⟨h, h2⟩ => ⟨h2, Or.inr ⟨rfl, h⟩⟩)
  · exact (need_yes w).mono (fun e w' ⟨h, h2⟩ => ⟨h2, Or.inl ⟨rfl, h⟩⟩)
theorem mark_any (more : Int) (b : Bool) (w : World) : Calls Tryz.prog 86 #[.int .i64 more, .bool b] w fun e w' => e = .returned (.int .i64 (if b = true then more else 0)) ∧ w = w' := by
  cases b
  all_goals
    go_enter Tryz.func86, Tryz.ntmps86
    go_wp2
    go_ret
    exact ⟨rfl, rfl⟩

/-- The cursor at block k: its bytes, its place. -/
structure Cu (w : World) (k : Nat) (p : Option Addr) (n c : Nat) (a : Int) : Prop where
  c0 : w.cell? ⟨k, 0, none⟩ = some (.slice p n c)
  c1 : w.cell? ⟨k, 1, none⟩ = some (.int .i64 a)
  fr : ∀ j, w.frozen? ⟨k, j, none⟩ = false
theorem Cu.lt {w : World} {k : Nat} {p : Option Addr} {n c : Nat} {a : Int} (h : Cu w k p n c a) : k < w.heap.size := World.block_lt_of_cell? w _ h.c0
theorem Cu.grown {w w' : World} {k : Nat} {p : Option Addr} {n c : Nat} {a : Int} {row : Option Nat} (h : Cu w k p n c a) (hg : w.grownBy w' row) (hne : some k ≠ row) : Cu w' k p n c a :=
  ⟨hg.cell h.c0 hne, hg.cell h.c1 hne, fun j => (World.frozen?_of_block (a := ⟨k, j, none⟩) (hg.block k h.lt hne)).trans (h.fr j)⟩
theorem Cu.below {w w' : World} {k : Nat} {p : Option Addr} {n c : Nat} {a : Int} (h : Cu w k p n c a) (hb : Below w.heap.size w w') : Cu w' k p n c a := h.grown (row := none) (grown_of_below hb none) (by simp)
theorem Cu.alloc {w : World} {k : Nat} {p : Option Addr} {n c : Nat} {a : Int} (h : Cu w k p n c a) (o : Obj) : Cu (w.alloc o) k p n c a := h.below ((Below.refl _ _).alloc (Nat.le_refl _) o)
theorem Cu.set_ne {w : World} {k : Nat} {p : Option Addr} {n c : Nat} {a : Int} (h : Cu w k p n c a) (g j : Nat) (v : Value) (hne : k ≠ g) : Cu (w.setCell ⟨g, j, none⟩ v) k p n c a := h.grown (grown_set w g j v) (by simp; exact hne)
theorem Cu.step {w : World} {k : Nat} {p : Option Addr} {n c : Nat} {a : Int} (h : Cu w k p n c a) (z : Int) : Cu (w.setCell ⟨k, 1, none⟩ (.int .i64 z)) k p n c z := by
  obtain ⟨c0, c1, fr⟩ := h
  exact ⟨by go_simp, by go_simp, fun j => by rw [World.frozen?_setCell]; exact fr j⟩
theorem Cu.new (w : World) (p : Option Addr) (n c : Nat) (a : Int) (T : TypeId) : Cu (w.alloc (.cells #[.slice p n c, .int .i64 a] T)) w.heap.size p n c a :=
  ⟨by go_simp, by go_simp, fun j => by go_simp⟩
/-- Writing a block that is new since. -/
theorem grown_new {a b c : World} {row : Option Nat} {R : Nat} (h : a.grownBy b row) (k : b.grownBy c (some R)) (hR : a.heap.size ≤ R) : a.grownBy c row :=
  ⟨k.os.trans h.os, k.tape.trans h.tape, k.output.trans h.output, Nat.le_trans h.size k.size, fun i hi hne => (k.block i (Nat.lt_of_lt_of_le hi h.size) (by simp; omega)).trans (h.block i hi hne)⟩

/-- A number of one or two bytes at a place. -/
def numP (xs : List Int) (a d : Nat) : Int := val ((xs.drop a).take d)
theorem num_one (xs : List Int) (a : Nat) (h : a < xs.length) : numP xs a 1 = xs.getD a 0 := by
  rw [numP, show (xs.drop a).take 1 = [xs.getD a 0] by
    apply List.ext_getElem
    · simp; omega
    · intro i h1 h2
      have : i = 0 := by simp at h2; omega
      subst this
      simp [List.getD_eq_getElem?_getD, List.getElem?_eq_getElem h]]
  simp [val]
theorem num_two (xs : List Int) (a : Nat) (h : a + 2 ≤ xs.length) : numP xs a 2 = w2 xs a := by
  have e : (xs.drop a).take 2 = [xs.getD a 0, xs.getD (a + 1) 0] := by
    apply List.ext_getElem
    · simp; omega
    · intro i h1 h2
      have : i = 0 ∨ i = 1 := by simp at h2; omega
      rcases this with rfl | rfl <;> simp [List.getD_eq_getElem?_getD] <;> rw [List.getElem?_eq_getElem (by omega)] <;> rfl
  rw [numP, e, w2]
  simp [val]
theorem numP_bd {xs : List Int} (hr : ∀ x ∈ xs, 0 ≤ x ∧ x ≤ 255) (a d : Nat) (hd : d ≤ 2) : 0 ≤ numP xs a d ∧ numP xs a d ≤ 65535 := by
  have h1 := val_bd ((xs.drop a).take d) (rng_take (rng_drop hr _) _)
  have h2 := pow256_le (show ((xs.drop a).take d).length ≤ 2 by simp; omega)
  have h3 : (256 : Int) ^ 2 = 65536 := by decide
  unfold numP
  omega

set_option maxHeartbeats 400000 in
theorem left_any (p : Option Addr) (n c : Nat) (w : World) (k : Nat) (a : Int) (hc : Cu w k p n c a) (hn : n ≤ 9223372036854775807) (b : Bool) (hb : b = decide (a < n)) :
    Calls Tryz.prog 120 #[.pointer (some ⟨k, 0, none⟩)] w fun e w' => e = .returned (.bool b) ∧ Below w.heap.size w w' := by
  obtain ⟨c0, c1, fr⟩ := hc
  by_cases h : a < n
  all_goals
    go_enter Tryz.func120, Tryz.ntmps120
    go_wp2
    go_region
    go_wp2
    go_ret
    subst hb
    exact ⟨by simp [h], drew_below ⟨1, rfl⟩⟩

set_option maxHeartbeats 400000 in
theorem pnum_any (p : Option Addr) (n c : Nat) (xs : List Int) (w : World) (k a d : Nat) (hc : Cu w k p n c a) (h : Byt w p n c xs) (h1 : 1 ≤ d) (h8 : d ≤ 2) (ha : a ≤ n) (v : Int) (hv : numP xs a d = v) (D : Int) (hD : D = d) :
    Calls Tryz.prog 128 #[.pointer (some ⟨k, 0, none⟩), .int .i64 D] w fun e w' => w.grownBy w' (some k) ∧ ((a + d ≤ n ∧ e = .returned (.int .i64 v) ∧ Cu w' k p n c ((a + d : Nat) : Int)) ∨ (n < a + d ∧ Thrown e)) := by
  subst hD
  have hle := h.le
  have hvb := numP_bd h.rng a d h8
  rw [hv] at hvb
  have HC := hidden hc
  obtain ⟨c0, c1, fr⟩ := hc
  by_cases hin : a + d ≤ n
  · have E1 := hidden (fun m => (number_yes p n c xs (w.drewN m) (h.below (drew_below ⟨m, rfl⟩)) a d h1 (by omega) hin).mono (R' := fun e w' => e = .returned (.tuple #[.int .u64 v, .bool true]) ∧ w' = w.drewN m) (fun e w' ⟨x, y⟩ => ⟨by rw [x]; simp only [numP] at hv; rw [hv], y.symm⟩))
    clear h hv
    go_enter Tryz.func128, Tryz.ntmps128
    go_wp2
    go_quiet ((go_at_call 95; (with_reducible exact Calls.quiet_of_same (E1.out _))))
    go_wp2_with (go_at_call 130; (with_reducible refine (need_yes _).mono ?_); rintro e w' ⟨rfl, rfl⟩)
    go_ret
    refine ⟨grown_trans (grown_drewN _ _ _) (grown_set _ k 1 _), Or.inl ⟨hin, rfl, ?_⟩⟩
    have := (HC.out.below (drew_below (B := w.heap.size) ⟨nq, rfl⟩)).step ((a : Int) + d)
    exact this
  · have hnum : numR xs a d = (0, false) := by rw [numR, if_neg (by have := h.len; omega)]
    have E1 := hidden (fun m => (number_any p n c xs (w.drewN m) (h.below (drew_below ⟨m, rfl⟩)) a d (by omega) (by omega)).mono (R' := fun e w' => e = .returned (.tuple #[.int .u64 0, .bool false]) ∧ w' = w.drewN m) (fun e w' ⟨x, y⟩ => ⟨by rw [x, hnum], y.symm⟩))
    clear h hv hnum
    go_enter Tryz.func128, Tryz.ntmps128
    go_wp2
    go_quiet ((go_at_call 95; (with_reducible exact Calls.quiet_of_same (E1.out _))))
    go_wp2_with (go_at_call 130; (with_reducible refine (need_no _).mono ?_); rintro e w' ⟨rfl, rfl⟩)
    exact ⟨rfl, grown_drewN _ _ _, Or.inr ⟨by omega, rfl⟩⟩

set_option maxHeartbeats 800000 in
theorem ptake_any (p : Option Addr) (n c : Nat) (xs : List Int) (w : World) (k a : Nat) (hc : Cu w k p n c a) (h : Byt w p n c xs) (hb : n ≤ 140737488355328) (ha : a ≤ n) (M : Int) (hM : -9223372036854775808 ≤ M ∧ M ≤ 9223372036854775807) :
    Calls Tryz.prog 129 #[.pointer (some ⟨k, 0, none⟩), .int .i64 M] w fun e w' => w.grownBy w' (some k) ∧ ((0 ≤ M ∧ a + M ≤ n ∧ ∃ q m d, e = .returned (.slice q m d) ∧ Bod w' w.heap.size q m d ((xs.drop a).take M.toNat) ∧ Cu w' k p n c (a + M)) ∨ (¬ (0 ≤ M ∧ a + M ≤ n) ∧ Thrown e)) := by
  have hle := h.le
  have hlen := h.len
  have HC := hidden hc
  obtain ⟨c0, c1, fr⟩ := hc
  have HX := hidden h
  have E1 := hidden (fun (w : World) (h : Byt w p n c xs) => slice_bod p n c xs w h hb a M (by omega) hM)
  by_cases hin : 0 ≤ M ∧ a + M ≤ n
  · have hp : pieceR xs a M = ((xs.drop a).take M.toNat, true) := by
      rw [pieceR, if_pos (by omega), Int.toNat_natCast]
    have HP := hidden hp
    obtain ⟨hM0, hM1⟩ := hin
    have HXD : Hid (Byt w.drew p n c xs) := hidden (HX.out.below (drew_below ⟨1, rfl⟩))
    have E2 := hidden (E1.out w.drew HXD.out)
    clear h hp
    go_enter Tryz.func129, Tryz.ntmps129
    go_wp2
    go_region_law ((go_simp; go_at_call 75; (with_reducible refine (E2.out).mono ?_); rintro e wA ⟨q, m, d, rfl, hby, hbel⟩))
    all_goals
      rw [HP.out] at hby
      have hg : w.grownBy wA (some k) := grown_trans (grown_drewN w 1 _) (grown_of_below hbel _)
      have HCA : Hid (Cu wA k p n c a) := hidden ((HC.out.below (w' := w.drew) (drew_below ⟨1, rfl⟩)).below hbel)
      have c0 := HCA.out.c0
      have c1 := HCA.out.c1
      have fr := HCA.out.fr
      rw [HP.out]
      go_wp2_with (go_at_call 130; (with_reducible refine (need_yes _).mono ?_); rintro e w' ⟨rfl, rfl⟩)
      go_ret
      refine ⟨grown_trans hg (grown_set _ k 1 _), Or.inl ⟨hM0, hM1, q, m, d, rfl, (hby.mono (by simp)).grown (grown_set _ k 1 _) (OffB.low (by have := HC.out.lt; omega)), HCA.out.step _⟩⟩
  · have hp : pieceR xs a M = ([], false) := by
      rw [pieceR, if_neg (by omega)]
    have HP := hidden hp
    have HXD : Hid (Byt w.drew p n c xs) := hidden (HX.out.below (drew_below ⟨1, rfl⟩))
    have E2 := hidden (E1.out w.drew HXD.out)
    have HIN := hidden hin
    clear h hp hin
    go_enter Tryz.func129, Tryz.ntmps129
    go_wp2
    go_region_law ((go_simp; go_at_call 75; (with_reducible refine (E2.out).mono ?_); rintro e wA ⟨q, m, d, rfl, hby, hbel⟩))
    all_goals
      have hg : w.grownBy wA (some k) := grown_trans (grown_drewN w 1 _) (grown_of_below hbel _)
      rw [HP.out]
      go_wp2_with (go_at_call 130; (with_reducible refine (need_no _).mono ?_); rintro e w' ⟨rfl, rfl⟩)
      exact ⟨rfl, hg, Or.inr ⟨HIN.out, rfl⟩⟩
end Go.Proofs.YtbpmanbpmlkmnaaGreatDoor
