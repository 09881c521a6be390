/-
  What package proposal reads of a section and of a transform, or throws.
-/
import Derived.Test.YtblpkbjbaajdeaaPCursor
import Derived.Test.YtblpkbjbaajdeaaPropKinds
import Derived.Test.YtblpkbjbaajdeaaInts
namespace Go.Proofs.Ytblpkbjbaajdeaa
open Go.RowKit
set_option linter.unusedVariables false

/-- A parser at block k: its bytes, and how many of them are read. -/
structure PS (w : World) (k : Nat) (p : Option Addr) (n c : Nat) (xs : List Int) (a : Nat) : Prop where
  cu : Cu w k p n c a
  byt : ∃ W, Byt W p n c xs ∧ Below W.heap.size W w ∧ W.heap.size ≤ k
  le : a ≤ n
section
variable {w w' : World} {k : Nat} {p : Option Addr} {n c : Nat} {xs : List Int} {a b : Nat}
theorem PS.here (h : PS w k p n c xs a) : Byt w p n c xs := by
  obtain ⟨W, h1, h2, _⟩ := h.byt
  exact h1.below h2
theorem PS.next (h : PS w k p n c xs a) (hg : w.grownBy w' (some k)) (hc : Cu w' k p n c (b : Nat)) (hb : b ≤ n) : PS w' k p n c xs b := by
  obtain ⟨W, h1, h2, h3⟩ := h.byt
  exact ⟨hc, ⟨W, h1, h2.grown hg h2.size (fun r hr => by cases hr; exact h3), h3⟩, hb⟩
theorem PS.off {row : Option Nat} (h : PS w k p n c xs a) (hg : w.grownBy w' row) (hr : ∀ r, row = some r → k < r) : PS w' k p n c xs a := by
  obtain ⟨W, h1, h2, h3⟩ := h.byt
  exact ⟨h.cu.grown hg (fun e => by have := hr k e.symm; omega), ⟨W, h1, h2.grown hg h2.size (fun r e => by have := hr r e; omega), h3⟩, h.le⟩
theorem PS.below (h : PS w k p n c xs a) (hb : Below w.heap.size w w') : PS w' k p n c xs a := h.off (row := none) (grown_of_below hb none) (by simp)
theorem PS.lt (h : PS w k p n c xs a) : k < w.heap.size := h.cu.lt
end

theorem pn1 (p : Option Addr) (n c : Nat) (xs : List Int) (w : World) (k a : Nat) (h : PS w k p n c xs a) (v : Int) (hv : xs.getD a 0 = v) :
    Calls Try.prog 64 #[.pointer (some ⟨k, 0, none⟩), .int .i64 1] w fun e w' => w.grownBy w' (some k) ∧ ((a + 1 ≤ n ∧ e = .returned (.int .i64 v) ∧ PS w' k p n c xs (a + 1)) ∨ (n < a + 1 ∧ Thrown e)) := by
  refine (pnum_any p n c xs w k a 1 h.cu h.here (by omega) (by omega) h.le _ rfl 1 rfl).mono ?_
  rintro e w' ⟨hg, ⟨h1, rfl, hc⟩ | ⟨h1, ht⟩⟩
  · exact ⟨hg, Or.inl ⟨h1, by rw [num_one _ _ (by have := h.here.len; omega), hv], h.next hg hc h1⟩⟩
  · exact ⟨hg, Or.inr ⟨h1, ht⟩⟩
theorem pn2 (p : Option Addr) (n c : Nat) (xs : List Int) (w : World) (k a : Nat) (h : PS w k p n c xs a) (v : Int) (hv : w2 xs a = v) :
    Calls Try.prog 64 #[.pointer (some ⟨k, 0, none⟩), .int .i64 2] w fun e w' => w.grownBy w' (some k) ∧ ((a + 2 ≤ n ∧ e = .returned (.int .i64 v) ∧ PS w' k p n c xs (a + 2)) ∨ (n < a + 2 ∧ Thrown e)) := by
  refine (pnum_any p n c xs w k a 2 h.cu h.here (by omega) (by omega) h.le _ rfl 2 rfl).mono ?_
  rintro e w' ⟨hg, ⟨h1, rfl, hc⟩ | ⟨h1, ht⟩⟩
  · exact ⟨hg, Or.inl ⟨h1, by rw [num_two _ _ (by have := h.here.len; omega), hv], h.next hg hc h1⟩⟩
  · exact ⟨hg, Or.inr ⟨h1, ht⟩⟩
theorem pl (p : Option Addr) (n c : Nat) (xs : List Int) (w : World) (k a : Nat) (h : PS w k p n c xs a) (b : Bool) (hb : b = decide (a < n)) :
    Calls Try.prog 50 #[.pointer (some ⟨k, 0, none⟩)] w fun e w' => e = .returned (.bool b) ∧ Below w.heap.size w w' ∧ PS w' k p n c xs a :=
  (left_any p n c w k a h.cu h.here.le b (by rw [hb]; simp)).mono fun e w' ⟨h1, h2⟩ => ⟨h1, h2, h.below h2⟩
theorem pt (p : Option Addr) (n c : Nat) (xs : List Int) (w : World) (k a : Nat) (h : PS w k p n c xs a) (hn : n ≤ 140737488355328) (M : Int) (hM : -9223372036854775808 ≤ M ∧ M ≤ 9223372036854775807) :
    Calls Try.prog 65 #[.pointer (some ⟨k, 0, none⟩), .int .i64 M] w fun e w' => w.grownBy w' (some k) ∧ ((0 ≤ M ∧ a + M ≤ n ∧ ∃ q m d, e = .returned (.slice q m d) ∧ Bod w' w.heap.size q m d ((xs.drop a).take M.toNat) ∧ PS w' k p n c xs (a + M.toNat)) ∨ (¬ (0 ≤ M ∧ a + M ≤ n) ∧ Thrown e)) := by
  refine (ptake_any p n c xs w k a h.cu h.here hn h.le M hM).mono ?_
  rintro e w' ⟨hg, ⟨h1, h2, q, m, d, he, hby, hc⟩ | ⟨h1, ht⟩⟩
  · exact ⟨hg, Or.inl ⟨h1, h2, q, m, d, he, hby, h.next hg (by rw [show ((a + M.toNat : Nat) : Int) = a + M by omega]; exact hc) (by omega)⟩⟩
  · exact ⟨hg, Or.inr ⟨h1, ht⟩⟩

/-- A section: its inside, and how many bytes it has. -/
def secV (more : Int) (ys : List Int) : Option (List Int × Nat) :=
  if ys.length < 4 then none else if w2 ys 2 < 4 ∨ (ys.length : Int) < w2 ys 2 then none
  else if ys.getD 0 0 ≠ (if (ys.length : Int) = w2 ys 2 then 0 else more) then none else some ((ys.take (w2 ys 2).toNat).drop 4, (w2 ys 2).toNat)

/-- What section returns. -/
def GotS (w : World) (k : Nat) (p : Option Addr) (n c : Nat) (xs : List Int) (a : Nat) (r : Option (List Int × Nat)) (e : Ending) (w' : World) : Prop :=
  w.grownBy w' (some k) ∧ match r with
  | none => Thrown e
  | some x => ∃ R q m d, e = .returned (.pointer (some ⟨R, 0, none⟩)) ∧ w.heap.size ≤ R ∧ PS w' R q m d x.1 0 ∧ PS w' k p n c xs (a + x.2)
theorem gots_none {w : World} {k : Nat} {p : Option Addr} {n c : Nat} {xs : List Int} {a : Nat} {r : Option (List Int × Nat)} {e : Ending} {w' : World} (hg : w.grownBy w' (some k)) (hr : r = none) (ht : Thrown e) : GotS w k p n c xs a r e w' := by
  subst hr
  exact ⟨hg, ht⟩

theorem getD_dropP (xs : List Int) (a b : Nat) : (xs.drop a).getD b 0 = xs.getD (a + b) 0 := by simp [List.getD_eq_getElem?_getD]
theorem w2_dropP (xs : List Int) (a b : Nat) : w2 (xs.drop a) b = w2 xs (a + b) := by rw [w2, getD_dropP, getD_dropP, w2, Nat.add_assoc]
theorem w2_bdP (xs : List Int) (hr : ∀ x ∈ xs, 0 ≤ x ∧ x ≤ 255) (a : Nat) : 0 ≤ w2 xs a ∧ w2 xs a ≤ 65535 := by
  have h0 := rng_getD hr a
  have h1 := rng_getD hr (a + 1)
  unfold w2
  omega

theorem secV_at (more : Int) (xs : List Int) (n a : Nat) (hl : xs.length = n) (L x0 : Int) (hL : w2 xs (a + 2) = L) (hx : xs.getD a 0 = x0) : secV more (xs.drop a) =
    if n - a < 4 then none else if L < 4 ∨ ((n - a : Nat) : Int) < L then none else if x0 ≠ (if ((n - a : Nat) : Int) = L then 0 else more) then none else some (((xs.drop a).take L.toNat).drop 4, L.toNat) := by
  subst hL hx hl
  have e : xs.getD a 0 = (xs.drop a).getD 0 0 := by rw [getD_dropP]; rfl
  rw [e]
  unfold secV
  rw [List.length_drop, w2_dropP]

set_option maxHeartbeats 800000 in
theorem section_any (more : Int) (p : Option Addr) (n c : Nat) (xs : List Int) (w : World) (k a : Nat) (h : PS w k p n c xs a) (hn : n ≤ 1048576) (r : Option (List Int × Nat)) (hr : secV more (xs.drop a) = r) :
    Calls Try.prog 51 #[.pointer (some ⟨k, 0, none⟩), .int .i64 more] w (GotS w k p n c xs a r) := by
  have hlen := h.here.len
  have hrng := h.here.rng
  have hd : (xs.drop a).length = n - a := by simp [hlen]
  have hle := h.le
  obtain ⟨L, hL⟩ : ∃ L, w2 xs (a + 2) = L := ⟨_, rfl⟩
  have hLb := w2_bdP xs hrng (a + 2)
  rw [hL] at hLb
  obtain ⟨x0, hx0⟩ : ∃ x0, xs.getD a 0 = x0 := ⟨_, rfl⟩
  have hxb := rng_getD hrng a
  rw [hx0] at hxb
  rw [secV_at more xs n a hlen L x0 hL hx0] at hr
  obtain ⟨x1, hx1⟩ : ∃ x1, xs.getD (a + 1) 0 = x1 := ⟨_, rfl⟩
  have HR := hidden hr
  have HP := hidden h
  have HX0 := hidden hx0
  have HX1 := hidden hx1
  have HL := hidden hL
  clear hr h hx0 hx1 hL hrng hlen hd
  go_enter Try.func51, Try.ntmps51
  go_wp2_with fail
  go_at_call 64
  (with_reducible refine (pn1 p n c xs w k a HP.out x0 HX0.out).mono ?_)
  rintro e w1 ⟨hg1, ⟨hi1, rfl, hps1⟩ | ⟨hi1, ht⟩⟩
  rotate_left
  · subst ht
    exact ⟨rfl, gots_none hg1 (by rw [← HR.out, if_pos (by omega)]) rfl⟩
  have HP1 := hidden hps1
  have HG1 := hidden hg1
  clear hps1 hg1
  go_wp2_with fail
  go_at_call 64
  (with_reducible refine (pn1 p n c xs w1 k (a + 1) HP1.out x1 HX1.out).mono ?_)
  rintro e w2 ⟨hg2, ⟨hi2, rfl, hps2⟩ | ⟨hi2, ht⟩⟩
  rotate_left
  · subst ht
    exact ⟨rfl, gots_none (grown_trans HG1.out hg2) (by rw [← HR.out, if_pos (by omega)]) rfl⟩
  have HP2 := hidden hps2
  have HG2 := hidden (grown_trans HG1.out hg2)
  clear hps2 hg2 HG1 HP1
  go_wp2_with fail
  go_at_call 64
  (with_reducible refine (pn2 p n c xs w2 k (a + 2) HP2.out L HL.out).mono ?_)
  rintro e w3 ⟨hg3, ⟨hi3, rfl, hps3⟩ | ⟨hi3, ht⟩⟩
  rotate_left
  · subst ht
    exact ⟨rfl, gots_none (grown_trans HG2.out hg3) (by rw [← HR.out, if_pos (by omega)]) rfl⟩
  have HP3 := hidden hps3
  have HG3 := hidden (grown_trans HG2.out hg3)
  clear hps3 hg3 HG2 HP2
  have HR4 := hidden HR.out
  have hr := HR.out
  rw [if_neg (by omega)] at hr
  have HR4 := hidden hr
  clear hr HR
  go_wp2_with fail
  go_at_call 65
  (with_reducible refine (pt p n c xs w3 k (a + 2 + 2) HP3.out (by omega) (L - 4) (by omega)).mono ?_)
  rintro e w4 ⟨hg4, ⟨hi4, hi5, q, m, d, rfl, hby, hps4⟩ | ⟨hi4, ht⟩⟩
  rotate_left
  · subst ht
    exact ⟨rfl, gots_none (grown_trans HG3.out hg4) (by rw [← HR4.out, if_pos (by omega)]) rfl⟩
  have hr := HR4.out
  rw [if_neg (by omega)] at hr
  obtain ⟨l, rfl⟩ := Int.eq_ofNat_of_zero_le hLb.1
  have e1 : ((xs.drop a).take l).drop 4 = (xs.drop (a + 2 + 2)).take ((l : Int) - 4).toNat := by
    rw [show ((l : Int) - 4).toNat = l - 4 by omega, List.drop_take, List.drop_drop]
  rw [Int.toNat_natCast, e1] at hr
  have hm := hby.byt.len
  have hq : PS (w4.alloc (.cells #[.slice q m d, .int .i64 0] 91)) w4.heap.size q m d ((xs.drop (a + 2 + 2)).take ((l : Int) - 4).toNat) 0 :=
    ⟨Cu.new _ _ _ _ _ _, ⟨w4, hby.byt, (Below.refl _ _).alloc (Nat.le_refl _) _, Nat.le_refl _⟩, Nat.zero_le _⟩
  have hp5 := hps4.below ((Below.refl _ _).alloc (Nat.le_refl _) (.cells #[.slice q m d, .int .i64 0] 91))
  rw [show a + 2 + 2 + ((l : Int) - 4).toNat = a + l by omega] at hp5
  have hg5 := grown_alloc_new (grown_trans HG3.out hg4) (.cells #[.slice q m d, .int .i64 0] 91)
  have hs5 : w.heap.size ≤ w4.heap.size := (grown_trans HG3.out hg4).size
  generalize (xs.drop (a + 2 + 2)).take ((l : Int) - 4).toNat = ys at hr hq
  have HQ := hidden hq
  have HP5 := hidden hp5
  have HG5 := hidden hg5
  have HR5 := hidden hr
  clear hq hp5 hg5 hr hby hps4 hg4 HG3 HP3 HR4 e1 hm
  obtain ⟨b, hb⟩ : ∃ b, b = decide (a + l < n) := ⟨_, rfl⟩
  have HB := hidden hb
  clear hb
  go_wp2_with fail
  go_at_call 50
  (with_reducible refine (pl p n c xs _ k (a + l) HP5.out b HB.out).mono ?_)
  rintro e w6 ⟨rfl, hb6, hp6⟩
  have HP6 := hidden hp6
  have HQ6 := hidden (HQ.out.below hb6)
  have HG6 := hidden (grown_trans HG5.out (grown_of_below hb6 _))
  clear hp6 hb6
  obtain ⟨mk, hmk⟩ : ∃ mk, (if b = true then more else 0) = mk := ⟨_, rfl⟩
  have HMK := hidden hmk
  clear hmk
  go_wp2_with (go_at_call 33; (with_reducible refine (mark_any more b _).mono ?_); rintro e w7 ⟨rfl, rfl⟩; rw [HMK.out])
  go_at_call 66
  (refine (need_any _ _).mono ?_)
  have hcond : (x0 == mk) = true ↔ ¬ x0 ≠ (if ((n - a : Nat) : Int) = l then 0 else more) := by
    rw [← HMK.out, HB.out]
    by_cases hh : a + l < n
    · rw [if_neg (show ¬ ((n - a : Nat) : Int) = l by omega)]
      simp [hh]
    · rw [if_pos (show ((n - a : Nat) : Int) = l by omega)]
      simp [hh]
  rintro e w8 ⟨rfl, ⟨ht, rfl⟩ | ⟨ht, hth⟩⟩
  · have hr := HR5.out
    rw [if_neg (hcond.1 ht)] at hr
    have HR6 := hidden hr
    clear hcond ht hr
    go_wp2
    go_ret
    rw [← HR6.out]
    exact ⟨HG6.out, _, q, m, d, rfl, hs5, HQ6.out, HP6.out⟩
  · subst hth
    refine ⟨rfl, gots_none HG6.out ?_ rfl⟩
    rw [← HR5.out, if_pos]
    intro h
    rw [hcond.2 (by simpa using h)] at ht
    cases ht
end Go.Proofs.Ytblpkbjbaajdeaa
