/-
  What package selector's read and Parse return, for any bytes.
  Package payload's reader of selectors.
  The first error of a message (message.Check).
-/
import Derived.Test.YtkniifopfgeopaaGreatJZ21
import Derived.Test.YtkniifopfgeopaaGreatJZ13
import Derived.Test.YtkniifopfgeopaaGreatJZ5
import Derived.Test.YtkniifopfgeopaaGreatJZ16
import Derived.Test.YtkniifopfgeopaaGreatJZ30
namespace Go.Proofs.YtkniifopfgeopaaGreat
open Go.RowKit
set_option linter.unusedVariables false

theorem one_len {xs : List Int} {s : Sl} {k : Nat} (h : oneS xs = some (s, k)) : k ≤ xs.length ∧ (k = 16 ∨ k = 40) := by
  unfold oneS at h
  split at h
  · cases h
  split at h
  · rename_i h1
    obtain ⟨-, rfl⟩ := Prod.mk.inj (Option.some.inj h)
    exact ⟨h1.2.2, Or.inl rfl⟩
  split at h
  · rename_i h1
    obtain ⟨-, rfl⟩ := Prod.mk.inj (Option.some.inj h)
    exact ⟨h1.2.2, Or.inr rfl⟩
  · cases h
theorem nAt_bd (xs : List Int) (hr : ∀ x ∈ xs, 0 ≤ x ∧ x ≤ 255) (a k : Nat) (hk : k ≤ 8) : 0 ≤ nAt xs a k ∧ nAt xs a k ≤ 18446744073709551615 := by
  have hb := val_bd ((xs.drop a).take k) (rng_take (rng_drop hr _) _)
  have hl : ((xs.drop a).take k).length ≤ 8 := by simp; omega
  have h8 := pow256_le hl
  have e : (256 : Int) ^ 8 = 18446744073709551616 := by decide
  rw [e] at h8
  unfold nAt
  omega
theorem nAt_two (xs : List Int) (hr : ∀ x ∈ xs, 0 ≤ x ∧ x ≤ 255) (a k : Nat) (hk : k ≤ 2) : nAt xs a k ≤ 65535 := by
  have hb := val_bd ((xs.drop a).take k) (rng_take (rng_drop hr _) _)
  have hl : ((xs.drop a).take k).length ≤ 2 := by simp; omega
  have h8 := pow256_le hl
  have e : (256 : Int) ^ 2 = 65536 := by decide
  rw [e] at h8
  unfold nAt
  omega
theorem one_fit {xs : List Int} (hr : ∀ x ∈ xs, 0 ≤ x ∧ x ≤ 255) {s : Sl} {k : Nat} (h : oneS xs = some (s, k)) : FitS s := by
  have h0 := rng_getD hr 1
  have b := nAt_bd xs hr
  have t := nAt_two xs hr
  unfold oneS at h
  split at h
  · cases h
  split at h
  · obtain ⟨rfl, -⟩ := Prod.mk.inj (Option.some.inj h)
    have b1 := b 4 2 (by omega)
    have b2 := b 6 2 (by omega)
    have t1 := t 4 2 (by omega)
    have t2 := t 6 2 (by omega)
    exact ⟨by simp only; omega, by simp only; omega, by simp only; omega, ⟨by simp, by simp, b 8 4 (by omega)⟩, ⟨by simp, by simp, b 12 4 (by omega)⟩⟩
  split at h
  · obtain ⟨rfl, -⟩ := Prod.mk.inj (Option.some.inj h)
    have b1 := b 4 2 (by omega)
    have b2 := b 6 2 (by omega)
    have t1 := t 4 2 (by omega)
    have t2 := t 6 2 (by omega)
    exact ⟨by simp only; omega, by simp only; omega, by simp only; omega, ⟨by simp, b 8 8 (by omega), b 16 8 (by omega)⟩, ⟨by simp, b 24 8 (by omega), b 32 8 (by omega)⟩⟩
  · cases h

/-- What read returns. -/
def ReadL (w : World) (r : Option (List Sl)) (e : Ending) (w' : World) : Prop := Below w.heap.size w w' ∧ match r with
  | none => ∃ v, e = .returned (.tuple #[v, .bool false])
  | some l => ∃ v, e = .returned (.tuple #[v, .bool true]) ∧ RowG KSl NSl w' w.heap.size v l

set_option maxHeartbeats 1600000 in
set_option maxRecDepth 100000 in
theorem sread_any (p : Option Addr) (n c : Nat) (xs : List Int) (w : World) (h : Byt w p n c xs) (N : Nat) (hN : N ≤ 255) (r : Option (List Sl)) (hr : manyS N xs = r) :
    Calls Tryz.prog 110 #[.slice p n c, .int .i64 N] w (ReadL w r) := by
  have HX := hidden h
  have HR := hidden hr
  clear h hr
  go_enter Tryz.func110, Tryz.ntmps110
  go_wp2
  go_loopw [0, 6, 11] (fun b v i wr => ∃ (j : Nat) (l : List Sl) (p' : Option Addr) (n' c' : Nat) (ys : List Int), i = .int .i64 j ∧ j ≤ N ∧ l.length = j ∧ b = .slice p' n' c' ∧ Byt w p' n' c' ys ∧ (manyS (N - j) ys).map (l ++ ·) = r ∧ RowG KSl NSl wr w.heap.size v l ∧ Below w.heap.size w wr) (fun _ _ i _ => N - (intOf i).toNat)
  case atStart => exact ⟨0, [], p, n, c, xs, rfl, by omega, rfl, rfl, HX.out, by rw [← HR.out]; simp, RowG.nil _ _ _ _, Below.refl _ _⟩
  case round =>
    obtain ⟨j, l, p', n', c', ys, rfl, hj, hlj, rfl, hby, hm, hrow, hb⟩ := hrel
    obtain ⟨po, co, rfl⟩ := hrow.form rfl
    have HLJ := hidden hlj
    have hl255 : l.length ≤ 255 := by omega
    clear hlj
    have HY := hidden hby
    have HRW := hidden hrow
    have HB := hidden hb
    have hn' := hby.le
    have hlen := hidden hby.len
    clear HX HR hrow
    by_cases hlt : j < N
    · have hlt' : (j : Int) < N := by omega
      rw [show N - j = (N - (j + 1)) + 1 by omega] at hm
      obtain ⟨o, ho⟩ : ∃ o, oneS ys = o := ⟨_, rfl⟩
      have HO := hidden (fun w (h : Byt w p' n' c' ys) => readOne_any p' n' c' ys w h o ho)
      have HYW := hidden (hby.below hb)
      unfold manyS at hm
      rw [ho] at hm
      cases o with
      | none =>
        have HM := hidden hm
        clear hm ho hby hb
        go_wp2_with (first
          | (go_at_call 119; (with_reducible refine (HO.out _ HYW.out).mono ?_); rintro e w1 ⟨hb1, rfl⟩; have HB1 := hidden (HB.out.trans (hb1.mono HB.out.size)); clear hb1)
          | fail)
        go_ret2
        have hM := HM.out
        simp only [Option.map_none] at hM
        subst hM
        exact ⟨HB1.out.alloc HB1.out.size _, _, rfl⟩
      | some sk =>
        obtain ⟨s, k'⟩ := sk
        simp only at hm
        obtain ⟨hk1, hk2⟩ := one_len ho
        rw [hby.len] at hk1
        have hfit := one_fit hby.rng ho
        obtain ⟨bb, oo, rfl, -⟩ := hby.at_ (by omega)
        have hpart := hby.part k' n' hk1 (Nat.le_refl _)
        rw [List.take_of_length_le (by rw [hby.len]; omega)] at hpart
        have hcap := hby.cap
        have HF := hidden hfit
        have HM := hidden hm
        have HPA := hidden hpart
        clear hm ho hby hb hfit hpart hk2
        have hcc : (c' = k' ∧ n' = k') ∨ c' ≠ k' := by omega
        rcases hcc with ⟨rfl, rfl⟩ | hcc
        all_goals
          first | (rw [if_pos rfl, Nat.sub_self] at HPA) | (rw [if_neg hcc, Option.map_some, WideShapes.add_plain] at HPA; replace HPA : Hid (Byt w (some ⟨bb, oo + k', none⟩) (n' - k') (c' - k') (List.drop k' ys)) := HPA)
          go_wp2_with (first
            | (go_at_call 119; (with_reducible refine (HO.out _ HYW.out).mono ?_); rintro e w1 ⟨hb1, rfl⟩; have HB1 := hidden ((HB.out.trans (hb1.mono HB.out.size)).alloc (HB.out.trans (hb1.mono HB.out.size)).size (.cells #[.int .i64 s.p, .int .i64 s.a, .int .i64 s.b, .int .i64 s.lo.f, .int .u64 s.lo.h, .int .u64 s.lo.l, .int .i64 s.hi.f, .int .u64 s.hi.h, .int .u64 s.hi.l] 116)); have HR1 := hidden (((HRW.out.below hb1).alloc (.cells #[.int .i64 s.p, .int .i64 s.a, .int .i64 s.b, .int .i64 s.lo.f, .int .u64 s.lo.h, .int .u64 s.lo.l, .int .i64 s.hi.f, .int .u64 s.hi.h, .int .u64 s.hi.l] 116)).alloc (.cells #[.int .i64 s.p, .int .i64 s.a, .int .i64 s.b, .int .i64 s.lo.f, .int .u64 s.lo.h, .int .u64 s.lo.l, .int .i64 s.hi.f, .int .u64 s.hi.h, .int .u64 s.hi.l] 116)); have HSR : Hid (SrcG KSl ((w1.alloc (.cells #[.int .i64 s.p, .int .i64 s.a, .int .i64 s.b, .int .i64 s.lo.f, .int .u64 s.lo.h, .int .u64 s.lo.l, .int .i64 s.hi.f, .int .u64 s.hi.h, .int .u64 s.hi.l] 116)).alloc (.cells #[.int .i64 s.p, .int .i64 s.a, .int .i64 s.b, .int .i64 s.lo.f, .int .u64 s.lo.h, .int .u64 s.lo.l, .int .i64 s.hi.f, .int .u64 s.hi.h, .int .u64 s.hi.l] 116)) (some ⟨w1.heap.size + 1, 0, none⟩) 1 [s]) := hidden (by have := srcSl (w1.alloc (.cells #[.int .i64 s.p, .int .i64 s.a, .int .i64 s.b, .int .i64 s.lo.f, .int .u64 s.lo.h, .int .u64 s.lo.l, .int .i64 s.hi.f, .int .u64 s.hi.h, .int .u64 s.hi.l] 116)) s 116; simpa using this); clear hb1)
            | (at_builtin; go_loud (refine wpList_append_g knownSl (by simp [NSl]) _ rfl _ _ rfl w.heap.size _ l rfl HR1.out _ 1 1 [s] rfl HSR.out (fun x hx => by rw [List.mem_singleton.1 hx]; exact HF.out) (by unfold maxLen; omega) (by omega) (by have := HB1.out.size; simp at this ⊢; omega) ?_))
            | fail)
          intro v' w4 hr4 hg4
          have HB4 := hidden ((HB1.out.alloc HB1.out.size (.cells #[.int .i64 s.p, .int .i64 s.a, .int .i64 s.b, .int .i64 s.lo.f, .int .u64 s.lo.h, .int .u64 s.lo.l, .int .i64 s.hi.f, .int .u64 s.hi.h, .int .u64 s.hi.l] 116)).grown hg4 (by have := HB1.out.size; simp at this ⊢; omega) (fun j hj => (HR1.out.lt j hj).1))
          have HR4 := hidden hr4
          clear hr4 hg4 HR1 HB1
          go_wp2
          go_roundw
          case rel => exact ⟨j + 1, l ++ [s], _, _, _, _, by go_num, by omega, by have := HLJ.out; simp; omega, rfl, HPA.out, by have hM := HM.out; rw [Option.map_map] at hM; rw [← hM]; congr 1; funext x; simp, HR4.out, HB4.out⟩
          case measure => simp [intOf]; omega
    · obtain rfl : j = N := by omega
      rw [Nat.sub_self] at hm
      unfold manyS at hm
      rw [hby.len] at hm
      by_cases h0 : n' = 0
      · subst h0
        simp at hm
        subst hm
        clear hby hb
        go_wp2
        go_ret2
        exact ⟨HB.out, _, rfl, HRW.out⟩
      · have h0' : ((n' : Int) == 0) = false := by simp; omega
        rw [if_neg h0] at hm
        simp only [Option.map_none] at hm
        subst hm
        clear hby hb
        go_wp2
        go_ret2
        exact ⟨HB.out, _, rfl⟩

/-- What Parse returns. -/
def ParsedS (w : World) (r : List Sl × Int) (e : Ending) (w' : World) : Prop := ∃ v, e = .returned (.tuple #[v, .int .i64 r.2]) ∧ RowG KSl NSl w' w.heap.size v r.1 ∧ Below w.heap.size w w'
theorem parsed_none (w w' : World) (E : Int) (r : List Sl × Int) (h : ([], E) = r) (hb : Below w.heap.size w w') : ParsedS w r (.returned (.tuple #[.slice none 0 0, .int .i64 E])) w' := by
  subst h
  exact ⟨_, rfl, RowG.nil _ _ _ _, hb⟩

set_option maxHeartbeats 1600000 in
set_option maxRecDepth 100000 in
theorem sparse_any (p : Option Addr) (n c : Nat) (xs : List Int) (w : World) (h : Byt w p n c xs) (r : List Sl × Int) (hr : parseS xs = r) :
    Calls Tryz.prog 100 #[.slice p n c] w (ParsedS w r) := by
  have hn := h.le
  unfold parseS at hr
  rw [h.len] at hr
  by_cases h4 : n < 4
  · rw [if_pos h4] at hr
    have HR := hidden hr
    clear h hr
    go_enter Tryz.func100, Tryz.ntmps100
    go_wp2
    go_ret2
    exact parsed_none _ _ _ _ HR.out (Below.refl _ _)
  rw [if_neg h4] at hr
  obtain ⟨bb, oo, rfl, hcell⟩ := h.at_ (by omega)
  have c0 := hcell 0 (by omega)
  have x0 := rng_getD h.rng 0
  obtain ⟨N, hN⟩ := Int.eq_ofNat_of_zero_le x0.1
  rw [hN] at hr c0 x0
  rw [Nat.add_zero] at c0
  have hcap := h.cap
  by_cases h0 : (N : Int) = 0
  · rw [if_pos h0] at hr
    have HR := hidden hr
    have hN0 : N = 0 := by omega
    subst hN0
    clear h hr hcell hN h0
    go_enter Tryz.func100, Tryz.ntmps100
    go_wp2_with (first
      | (go_at_call 90; (refine (count_any _ _).mono ?_); rintro e w' ⟨rfl, rfl⟩; rw [show cntE 0 = 8 from rfl])
      | fail)
    go_ret2
    exact parsed_none _ _ _ _ HR.out (Below.refl _ _)
  rw [if_neg h0] at hr
  by_cases h16 : (N : Int) > 16
  · rw [if_pos h16] at hr
    have hc10 : cntE N = 10 := by unfold cntE; rw [if_neg (by omega), if_pos (by omega)]
    have HR := hidden hr
    clear h hr hcell hN h0
    go_enter Tryz.func100, Tryz.ntmps100
    go_wp2_with (first
      | (go_at_call 90; (with_reducible refine (count_any _ _).mono ?_); rintro e w' ⟨rfl, rfl⟩; rw [hc10])
      | fail)
    go_ret2
    exact parsed_none _ _ _ _ HR.out (Below.refl _ _)
  rw [if_neg h16] at hr
  have hc0 : cntE N = 0 := by unfold cntE; rw [if_neg (by omega), if_neg (by omega)]
  have hpart := h.part 4 n (by omega) (Nat.le_refl _)
  rw [List.take_of_length_le (by rw [h.len]; omega)] at hpart
  obtain ⟨o, ho⟩ : ∃ o, manyS N (xs.drop 4) = o := ⟨_, rfl⟩
  rw [Int.toNat_natCast, ho] at hr
  have HR := hidden hr
  have HRD := hidden (fun q m d (h : Byt w q m d (xs.drop 4)) => sread_any q m d _ w h N (by omega) o ho)
  have HP := hidden hpart
  clear h hr hcell hN ho hpart
  have hcc : (c = 4 ∧ n = 4) ∨ c ≠ 4 := by omega
  rcases hcc with ⟨rfl, rfl⟩ | hcc
  all_goals
    first | (rw [if_pos rfl, Nat.sub_self] at HP) | (rw [if_neg hcc, Option.map_some, WideShapes.add_plain] at HP)
    cases o with
    | none =>
      go_enter Tryz.func100, Tryz.ntmps100
      go_wp2_with (first
        | (go_at_call 90; (with_reducible refine (count_any _ _).mono ?_); rintro e w' ⟨rfl, rfl⟩; rw [hc0])
        | (go_at_call 110; (with_reducible refine (HRD.out _ _ _ HP.out).mono ?_); rintro e w1 ⟨hb, v, rfl⟩; have HB1 := hidden hb; clear hb)
        | fail)
      go_ret2
      exact parsed_none _ _ _ _ HR.out HB1.out
    | some l =>
      obtain ⟨z, hz⟩ : ∃ z, errL l = z := ⟨_, rfl⟩
      have hr := HR.out
      simp only at hr
      rw [hz] at hr
      by_cases hz0 : z = 0
      · subst hz0
        rw [if_neg (by simp)] at hr
        have HR2 := hidden hr
        clear hr HR
        go_enter Tryz.func100, Tryz.ntmps100
        go_wp2_with (first
          | (go_at_call 90; (with_reducible refine (count_any _ _).mono ?_); rintro e w' ⟨rfl, rfl⟩; rw [hc0])
          | (go_at_call 110; (with_reducible refine (HRD.out _ _ _ HP.out).mono ?_); rintro e w1 ⟨hb, v, rfl, hrow⟩; have HB1 := hidden hb; have HRW := hidden hrow; obtain ⟨q, d, rfl, hrd⟩ := hrow.rd (D := DSlr) rfl (fun _ h => h); have HC := hidden (each_any q _ d l w1 hrd 0 hz); clear hb hrow hrd)
          | (go_at_call 91; (with_reducible refine (HC.out).mono ?_); rintro e w2 ⟨rfl, hb2⟩; have HRW2 := hidden (HRW.out.below hb2); have HB2 := hidden (HB1.out.trans (hb2.mono HB1.out.size)); clear hb2)
          | fail)
        go_ret2
        rw [← HR2.out]
        exact ⟨_, rfl, HRW2.out, HB2.out⟩
      · rw [if_pos hz0] at hr
        have hz' : (z != 0) = true := by simpa using hz0
        have HR2 := hidden hr
        clear hr HR hz0
        go_enter Tryz.func100, Tryz.ntmps100
        go_wp2_with (first
          | (go_at_call 90; (with_reducible refine (count_any _ _).mono ?_); rintro e w' ⟨rfl, rfl⟩; rw [hc0])
          | (go_at_call 110; (with_reducible refine (HRD.out _ _ _ HP.out).mono ?_); rintro e w1 ⟨hb, v, rfl, hrow⟩; have HB1 := hidden hb; obtain ⟨q, d, rfl, hrd⟩ := hrow.rd (D := DSlr) rfl (fun _ h => h); have HC := hidden (each_any q _ d l w1 hrd z hz); clear hb hrow hrd)
          | (go_at_call 91; (with_reducible refine (HC.out).mono ?_); rintro e w2 ⟨rfl, hb2⟩; have HB2 := hidden (HB1.out.trans (hb2.mono HB1.out.size)); clear hb2)
          | fail)
        go_ret2
        exact parsed_none _ _ _ _ HR2.out HB2.out
end Go.Proofs.YtkniifopfgeopaaGreat

namespace Go.Proofs.YtkniifopfgeopaaGreat
open Go.RowKit
set_option linter.unusedVariables false

set_option maxHeartbeats 800000 in
set_option maxRecDepth 100000 in
theorem selectors_read (p : Option Addr) (n c : Nat) (xs : List Int) (w : World) (h : Byt w p n c xs) (r : List Sl × Int) (hr : parseS xs = r) :
    Calls Tryz.prog 77 #[.slice p n c] w (ReadPv w r.2 fun w' x => RowG KSl NSl w' w.heap.size (.slice x.se.p x.se.n x.se.c) r.1 ∧ r.1.length = x.se.n) := by
  have HB := hidden ((Below.refl w.heap.size w).alloc (Nat.le_refl _) (.cells #[.int .i64 0, .slice none 0 0, .int .i64 0, .slice none 0 0, .int .i64 0, .slice none 0 0, .int .i64 0, .slice none 0 0, .int .i64 0, .slice none 0 0, .int .i64 0, .slice none 0 0, .int .i64 0, .slice none 0 0, .slice none 0 0, .slice none 0 0] 59))
  have HZ : Hid (PvIn (w.alloc (.cells #[.int .i64 0, .slice none 0 0, .int .i64 0, .slice none 0 0, .int .i64 0, .slice none 0 0, .int .i64 0, .slice none 0 0, .int .i64 0, .slice none 0 0, .int .i64 0, .slice none 0 0, .int .i64 0, .slice none 0 0, .slice none 0 0, .slice none 0 0] 59)) w.heap.size zeroP) := hidden (PvIn.new w zeroP 59)
  have HP := hidden (sparse_any p n c xs _ (h.alloc (.cells #[.int .i64 0, .slice none 0 0, .int .i64 0, .slice none 0 0, .int .i64 0, .slice none 0 0, .int .i64 0, .slice none 0 0, .int .i64 0, .slice none 0 0, .int .i64 0, .slice none 0 0, .int .i64 0, .slice none 0 0, .slice none 0 0, .slice none 0 0] 59)) r hr)
  clear h
  go_enter Tryz.func77, Tryz.ntmps77
  go_wp2_with (first
    | (go_at_call 100; (with_reducible refine (HP.out).mono ?_); rintro e w2 ⟨v2, rfl, hrow, hbc⟩; obtain ⟨q2, d2, rfl⟩ := hrow.form rfl; have HR2 := hidden hrow; have HB2 := hidden (HB.out.trans (hbc.mono HB.out.size)); have HZ2 := hidden (HZ.out.below hbc); obtain ⟨z0, z1, z2, z3, z4, z5, z6, z7, z8, z9, z10, z11, z12, z13, z14, z15, zf⟩ := HZ2.out; clear hrow hbc)
    | fail)
  have hlo := setPv_grown w2 w.heap.size ⟨0, nilV, 0, nilV, 0, nilV, 0, nilV, 0, nilV, 0, nilV, 0, nilV, ⟨q2, r.1.length, d2⟩, nilV⟩
  have hz := setPv_in HZ2.out ⟨0, nilV, 0, nilV, 0, nilV, 0, nilV, 0, nilV, 0, nilV, 0, nilV, ⟨q2, r.1.length, d2⟩, nilV⟩
  have hfl := (HR2.out.low hlo (by simp)).mono (show w.heap.size ≤ _ from HB.out.size)
  have HBS := hidden (HB2.out.grown hlo HB2.out.size (fun j hj => by cases hj; exact Nat.le_refl _))
  simp only [setPv, nilV] at hz hfl HBS
  have HZZ := hidden hz
  have HFF := hidden hfl
  clear hz hfl hlo
  refine ret_pv (g := w.heap.size) rfl rfl rfl rfl HZZ.out ?_
  exact ⟨_, rfl, HBS.out, fun _ => ⟨HFF.out, rfl⟩⟩
end Go.Proofs.YtkniifopfgeopaaGreat

namespace Go.Proofs.YtkniifopfgeopaaGreat
open Go.RowKit
set_option linter.unusedVariables false

/-- Some type comes twice that may not: 'ts' are the types that came before. -/
def twiceM : List Int → List Pv → Bool
  | _, [] => false
  | ts, y :: l => (decide (y.t ∈ ts) && !rep y.t) || twiceM (ts ++ [y.t]) l
/-- The first error of a message with exchange x, flags f and these payloads. -/
def checkM (x f : Int) (l : List Pv) : Int :=
  let ts := l.map Pv.t
  if twiceM [] l then 9
  else if decide ((46 : Int) ∈ ts) || decide ((53 : Int) ∈ ts) then (if 1 < l.length then 7 else 0)
  else if l.any tells then 0
  else if !((needL x (bits BinOp.and IntKind.i64 f 32 == 0)).all (fun k => decide (k ∈ ts)) || (x == 34 && (l.all plainP && l.any (isNote 16390)))) || (decide ((44 : Int) ∈ ts) != decide ((45 : Int) ∈ ts)) then 8
  else 0
theorem Fnd.alloc {w : World} {b : Nat} {ts : List Int} (h : Fnd w b ts) (o : Obj) : Fnd (w.alloc o) b ts := h.below ((Below.refl _ _).alloc (Nat.le_refl _) o)

set_option maxHeartbeats 6400000 in
set_option maxRecDepth 100000 in
theorem check_any (i r nx x f m : Int) (p : Option Addr) (n c : Nat) (l : List Pv) (w : World) (h : RdG KPv DPv w p n c l) (hn : n ≤ 100000) (hx : IntR x) :
    Calls Tryz.prog 13 #[.agg #[.int .u64 i, .int .u64 r, .int .i64 nx, .int .i64 x, .int .i64 f, .int .u32 m, .slice p n c]] w fun e w' => e = .returned (.int .i64 (checkM x f l)) ∧ Below w.heap.size w w' := by
  have hmm := @run_makeMap Tryz.prog
  have HBX := hidden ((Below.refl w.heap.size w).alloc (Nat.le_refl _) (.cells #[.int .u64 i, .int .u64 r, .int .i64 nx, .int .i64 x, .int .i64 f, .int .u32 m, .slice p n c] 39))
  have H := hidden h
  have HFM := hidden (Fnd.made (w.alloc (.cells #[.int .u64 i, .int .u64 r, .int .i64 nx, .int .i64 x, .int .i64 f, .int .u32 m, .slice p n c] 39)))
  have HCX : Hid (∀ j u, (#[Value.int .u64 i, .int .u64 r, .int .i64 nx, .int .i64 x, .int .i64 f, .int .u32 m, .slice p n c] : Array Value)[j]? = some u → (w.alloc (.cells #[.int .u64 i, .int .u64 r, .int .i64 nx, .int .i64 x, .int .i64 f, .int .u32 m, .slice p n c] 39)).cell? ⟨w.heap.size, j, none⟩ = some u) := fun j u hj => by
    rw [World.cell?_alloc_at _ _ _ _ rfl]
    simpa using hj
  have HXI := hidden hx
  obtain ⟨R0, hR0⟩ : ∃ R0, twiceM [] l = R0 := ⟨_, rfl⟩
  have HR0 := Is.mk hR0
  clear hR0
  go_enter Tryz.func13, Tryz.ntmps13
  go_wp2_with fail
  go_loopw [11] (fun v wr => ∃ (j : Nat), j ≤ n ∧ v = .int .i64 j ∧ Fnd wr (w.heap.size + 1) ((l.take j).map Pv.t) ∧ Is (twiceM ((l.take j).map Pv.t) (l.drop j)) R0 ∧ Below (w.heap.size + 1) (w.alloc (.cells #[.int .u64 i, .int .u64 r, .int .i64 nx, .int .i64 x, .int .i64 f, .int .u32 m, .slice p n c] 39)) wr) (fun v _ => n - (intOf v).toNat)
  case atStart => exact ⟨0, by omega, rfl, by simpa using HFM.out, ⟨by simpa using HR0.eq⟩, (Below.refl _ _).alloc (by simp) _⟩
  case round =>
    obtain ⟨j, hj, rfl, hfn, hrel, hb⟩ := hrel
    have HFN := hidden hfn
    have hb' : Below (w.alloc (.cells #[.int .u64 i, .int .u64 r, .int .i64 nx, .int .i64 x, .int .i64 f, .int .u32 m, .slice p n c] 39)).heap.size (w.alloc (.cells #[.int .u64 i, .int .u64 r, .int .i64 nx, .int .i64 x, .int .i64 f, .int .u32 m, .slice p n c] 39)) wr := by simpa using hb
    have HB := hidden (HBX.out.trans (hb'.mono HBX.out.size))
    have HB1 := hidden hb
    have m0 := cell_below hb' _ _ (HCX.out 0 _ rfl)
    have m1 := cell_below hb' _ _ (HCX.out 1 _ rfl)
    have m2 := cell_below hb' _ _ (HCX.out 2 _ rfl)
    have m3 := cell_below hb' _ _ (HCX.out 3 _ rfl)
    have m4 := cell_below hb' _ _ (HCX.out 4 _ rfl)
    have m5 := cell_below hb' _ _ (HCX.out 5 _ rfl)
    have m6 := cell_below hb' _ _ (HCX.out 6 _ rfl)
    have hsz : w.heap.size + 1 ≤ wr.heap.size := by have := hb'.size; simpa using this
    clear hb hb' hfn
    by_cases hlt : j < n
    · have hlt' : (j : Int) < n := by omega
      obtain ⟨g, y, rfl, hgx, hdr, hok, hc⟩ := (H.out.below HB.out).drop_cons hlt
      have c0 := hc 0 _ rfl
      have c1 := hc 1 _ rfl
      have c2 := hc 2 _ rfl
      have c3 := hc 3 _ rfl
      have c4 := hc 4 _ rfl
      have c5 := hc 5 _ rfl
      have c6 := hc 6 _ rfl
      have c7 := hc 7 _ rfl
      have c8 := hc 8 _ rfl
      have c9 := hc 9 _ rfl
      have c10 := hc 10 _ rfl
      have c11 := hc 11 _ rfl
      have c12 := hc 12 _ rfl
      have c13 := hc 13 _ rfl
      have c14 := hc 14 _ rfl
      have c15 := hc 15 _ rfl
      simp only [Nat.add_zero] at c0
      have hf := hrel.eq
      rw [hdr] at hf
      unfold twiceM at hf
      have htk : (l.take (j + 1)).map Pv.t = (l.take j).map Pv.t ++ [y.t] := by
        rw [List.take_add_one, hgx]
        simp
      have HTK := Is.mk htk
      have hlen : ((l.take j).map Pv.t).length ≤ 100000 := by simp; omega
      have HIY := hidden hok.t
      have hlk := (HFN.out.alloc (.cells #[.int .i64 y.t, .slice y.pr.p y.pr.n y.pr.c, .int .i64 y.eg, .slice y.ed.p y.ed.n y.ed.c, .int .i64 y.ik, .slice y.id.p y.id.n y.id.c, .int .i64 y.am, .slice y.ad.p y.ad.n y.ad.c, .int .i64 y.np, .slice y.ns.p y.ns.n y.ns.c, .int .i64 y.nt, .slice y.nd.p y.nd.n y.nd.c, .int .i64 y.dp, .slice y.ds.p y.ds.n y.ds.c, .slice y.se.p y.se.n y.se.c, .slice y.da.p y.da.n y.da.c] 59)).look y.t hok.t
      have HFA := hidden (HFN.out.alloc (.cells #[.int .i64 y.t, .slice y.pr.p y.pr.n y.pr.c, .int .i64 y.eg, .slice y.ed.p y.ed.n y.ed.c, .int .i64 y.ik, .slice y.id.p y.id.n y.id.c, .int .i64 y.am, .slice y.ad.p y.ad.n y.ad.c, .int .i64 y.np, .slice y.ns.p y.ns.n y.ns.c, .int .i64 y.nt, .slice y.nd.p y.nd.n y.nd.c, .int .i64 y.dp, .slice y.ds.p y.ds.n y.ds.c, .slice y.se.p y.se.n y.se.c, .slice y.da.p y.da.n y.da.c] 59))
      have HBP := hidden (HB1.out.alloc hsz (.cells #[.int .i64 y.t, .slice y.pr.p y.pr.n y.pr.c, .int .i64 y.eg, .slice y.ed.p y.ed.n y.ed.c, .int .i64 y.ik, .slice y.id.p y.id.n y.id.c, .int .i64 y.am, .slice y.ad.p y.ad.n y.ad.c, .int .i64 y.np, .slice y.ns.p y.ns.n y.ns.c, .int .i64 y.nt, .slice y.nd.p y.nd.n y.nd.c, .int .i64 y.dp, .slice y.ds.p y.ds.n y.ds.c, .slice y.se.p y.se.n y.se.c, .slice y.da.p y.da.n y.da.c] 59))
      have HRP := hidden (repeats_any y.t)
      clear hok hrel hdr hgx hc htk
      generalize (l.take j).map Pv.t = ts at hf HFN HFA hlk hlen HTK
      generalize decide (y.t ∈ ts) = z at hf hlk
      generalize rep y.t = q at hf HRP
      cases z with
      | true =>
        cases q with
        | true =>
          have HT : Is (twiceM (ts ++ [y.t]) (l.drop (j + 1))) R0 := ⟨by simpa using hf⟩
          clear hf
          go_wp2_with (first
            | (go_at_call 23; (with_reducible refine (HRP.out _).mono ?_); rintro _ w1 ⟨rfl, rfl⟩)
            | (at_mapUpdate; go_loud (refine wpList_fnd _ rfl _ _ _ rfl (w.heap.size + 1) ts HFA.out (by unfold maxLen; omega) rfl y.t rfl rfl HIY.out ?_); rintro w2 hf2 hg2; have HF2 := hidden hf2; have HB2 := hidden (HBP.out.grown hg2 (by simp; omega) (fun k hk => by cases hk; exact Nat.le_refl _)); clear hf2 hg2)
            | fail)
          go_roundw
          case rel => exact ⟨j + 1, by omega, by go_num, by rw [HTK.eq]; exact HF2.out, by rw [HTK.eq]; exact HT, HB2.out⟩
          case measure => simp [intOf]; omega
        | false =>
          have HT : Is R0 true := ⟨by simpa using hf.symm⟩
          clear hf
          go_wp2_with (first
            | (go_at_call 23; (with_reducible refine (HRP.out _).mono ?_); rintro _ w1 ⟨rfl, rfl⟩)
            | fail)
          go_ret
          exact ⟨by unfold checkM; rw [HR0.eq, HT.eq]; rfl, HB.out.alloc HB.out.size _⟩
      | false =>
        have HT : Is (twiceM (ts ++ [y.t]) (l.drop (j + 1))) R0 := ⟨by simpa using hf⟩
        clear hf
        go_wp2_with (first
          | (at_mapUpdate; go_loud (refine wpList_fnd _ rfl _ _ _ rfl (w.heap.size + 1) ts HFA.out (by unfold maxLen; omega) rfl y.t rfl rfl HIY.out ?_); rintro w2 hf2 hg2; have HF2 := hidden hf2; have HB2 := hidden (HBP.out.grown hg2 (by simp; omega) (fun k hk => by cases hk; exact Nat.le_refl _)); clear hf2 hg2)
          | fail)
        go_roundw
        case rel => exact ⟨j + 1, by omega, by go_num, by rw [HTK.eq]; exact HF2.out, by rw [HTK.eq]; exact HT, HB2.out⟩
        case measure => simp [intOf]; omega
    · have hlt' : ¬ (j : Int) < n := by omega
      have hll := H.out.len
      have hd : l.drop j = [] := List.drop_eq_nil_of_le (by omega)
      have hf := hrel.eq
      rw [hd] at hf
      have HT : Is R0 false := ⟨hf.symm⟩
      have hFe := HFN.out
      rw [List.take_of_length_le (show l.length ≤ j by omega)] at hFe
      have k46 := hFe.look 46 (by unfold IntR; omega)
      have k53 := hFe.look 53 (by unfold IntR; omega)
      have HFE := hidden hFe
      have HFW := hidden (fails_any i r nx x f m p n c l wr (H.out.below HB.out))
      have HCW := hidden (fun W (hW : Below wr.heap.size wr W) => complete_any i r nx x f m p n c l (w.heap.size + 1) (l.map Pv.t) W ((H.out.below HB.out).below hW) hn HXI.out (HFE.out.below hW))
      have HLL := Is.mk hll
      have HCM : Is (checkM x f l) (if decide ((46 : Int) ∈ l.map Pv.t) || decide ((53 : Int) ∈ l.map Pv.t) then (if 1 < l.length then 7 else 0) else if l.any tells then 0
          else if !((needL x (bits BinOp.and IntKind.i64 f 32 == 0)).all (fun k => decide (k ∈ l.map Pv.t)) || (x == 34 && (l.all plainP && l.any (isNote 16390)))) || (decide ((44 : Int) ∈ l.map Pv.t) != decide ((45 : Int) ∈ l.map Pv.t)) then 8 else 0) := ⟨by unfold checkM; rw [HR0.eq, HT.eq]; rfl⟩
      generalize ((needL x (bits BinOp.and IntKind.i64 f 32 == 0)).all (fun k => decide (k ∈ l.map Pv.t)) || (x == 34 && (l.all plainP && l.any (isNote 16390)))) = cm at HCM HCW
      generalize l.any tells = fl at HCM HFW
      generalize hd46 : decide ((46 : Int) ∈ l.map Pv.t) = d46 at HCM k46
      generalize hd53 : decide ((53 : Int) ∈ l.map Pv.t) = d53 at HCM k53
      clear hf hd hrel hFe hd46 hd53
      by_cases h1 : 1 < n
      · have h1' : (1 : Int) < (n : Int) := by omega
        rw [if_pos (show 1 < l.length by omega)] at HCM
        cases d46 with
        | true =>
          go_wp2
          go_ret
          exact ⟨by rw [HCM.eq]; rfl, HB.out⟩
        | false =>
          cases d53 with
          | true =>
            go_wp2
            go_ret
            exact ⟨by rw [HCM.eq]; rfl, HB.out⟩
          | false =>
            cases fl with
            | true =>
              go_wp2_with (first
                | (go_at_call 24; (with_reducible refine (HFW.out).mono ?_); rintro _ wf ⟨rfl, hbf⟩; have HBF := hidden hbf; have HBG := hidden (HB.out.trans (hbf.mono HB.out.size)); have HFF := hidden (HFE.out.below hbf); have e0 := cell_below hbf _ _ m0; have e1 := cell_below hbf _ _ m1; have e2 := cell_below hbf _ _ m2; have e3 := cell_below hbf _ _ m3; have e4 := cell_below hbf _ _ m4; have e5 := cell_below hbf _ _ m5; have e6 := cell_below hbf _ _ m6; clear hbf)
                | fail)
              go_ret
              exact ⟨by rw [HCM.eq]; rfl, HBG.out⟩
            | false =>
              generalize hd44 : decide ((44 : Int) ∈ l.map Pv.t) = d44 at HCM
              generalize hd45 : decide ((45 : Int) ∈ l.map Pv.t) = d45 at HCM
              cases cm with
              | false =>
                go_wp2_with (first
                  | (go_at_call 24; (with_reducible refine (HFW.out).mono ?_); rintro _ wf ⟨rfl, hbf⟩; have HBF := hidden hbf; have HBG := hidden (HB.out.trans (hbf.mono HB.out.size)); have HFF := hidden (HFE.out.below hbf); have e0 := cell_below hbf _ _ m0; have e1 := cell_below hbf _ _ m1; have e2 := cell_below hbf _ _ m2; have e3 := cell_below hbf _ _ m3; have e4 := cell_below hbf _ _ m4; have e5 := cell_below hbf _ _ m5; have e6 := cell_below hbf _ _ m6; clear hbf)
                  | (go_at_call 25; (with_reducible refine (HCW.out _ HBF.out).mono ?_); rintro _ wk ⟨rfl, hbk⟩; have HBK := hidden (HBG.out.trans (hbk.mono HBG.out.size)); have k44 := (HFF.out.below hbk).look 44 (by unfold IntR; omega); have k45 := (HFF.out.below hbk).look 45 (by unfold IntR; omega); rw [hd44] at k44; rw [hd45] at k45; clear hbk)
                  | fail)
                go_ret
                exact ⟨by rw [HCM.eq]; rfl, HBK.out⟩
              | true =>
                cases d44 <;> cases d45
                all_goals
                  go_wp2_with (first
                    | (go_at_call 24; (with_reducible refine (HFW.out).mono ?_); rintro _ wf ⟨rfl, hbf⟩; have HBF := hidden hbf; have HBG := hidden (HB.out.trans (hbf.mono HB.out.size)); have HFF := hidden (HFE.out.below hbf); have e0 := cell_below hbf _ _ m0; have e1 := cell_below hbf _ _ m1; have e2 := cell_below hbf _ _ m2; have e3 := cell_below hbf _ _ m3; have e4 := cell_below hbf _ _ m4; have e5 := cell_below hbf _ _ m5; have e6 := cell_below hbf _ _ m6; clear hbf)
                    | (go_at_call 25; (with_reducible refine (HCW.out _ HBF.out).mono ?_); rintro _ wk ⟨rfl, hbk⟩; have HBK := hidden (HBG.out.trans (hbk.mono HBG.out.size)); have k44 := (HFF.out.below hbk).look 44 (by unfold IntR; omega); have k45 := (HFF.out.below hbk).look 45 (by unfold IntR; omega); rw [hd44] at k44; rw [hd45] at k45; clear hbk)
                    | fail)
                  go_ret
                  exact ⟨by rw [HCM.eq]; rfl, HBK.out⟩
      · have h1' : ¬ (1 : Int) < (n : Int) := by omega
        rw [if_neg (show ¬ 1 < l.length by omega)] at HCM
        cases d46 with
        | true =>
          go_wp2
          go_ret
          exact ⟨by rw [HCM.eq]; rfl, HB.out⟩
        | false =>
          cases d53 with
          | true =>
            go_wp2
            go_ret
            exact ⟨by rw [HCM.eq]; rfl, HB.out⟩
          | false =>
            cases fl with
            | true =>
              go_wp2_with (first
                | (go_at_call 24; (with_reducible refine (HFW.out).mono ?_); rintro _ wf ⟨rfl, hbf⟩; have HBF := hidden hbf; have HBG := hidden (HB.out.trans (hbf.mono HB.out.size)); have HFF := hidden (HFE.out.below hbf); have e0 := cell_below hbf _ _ m0; have e1 := cell_below hbf _ _ m1; have e2 := cell_below hbf _ _ m2; have e3 := cell_below hbf _ _ m3; have e4 := cell_below hbf _ _ m4; have e5 := cell_below hbf _ _ m5; have e6 := cell_below hbf _ _ m6; clear hbf)
                | fail)
              go_ret
              exact ⟨by rw [HCM.eq]; rfl, HBG.out⟩
            | false =>
              generalize hd44 : decide ((44 : Int) ∈ l.map Pv.t) = d44 at HCM
              generalize hd45 : decide ((45 : Int) ∈ l.map Pv.t) = d45 at HCM
              cases cm with
              | false =>
                go_wp2_with (first
                  | (go_at_call 24; (with_reducible refine (HFW.out).mono ?_); rintro _ wf ⟨rfl, hbf⟩; have HBF := hidden hbf; have HBG := hidden (HB.out.trans (hbf.mono HB.out.size)); have HFF := hidden (HFE.out.below hbf); have e0 := cell_below hbf _ _ m0; have e1 := cell_below hbf _ _ m1; have e2 := cell_below hbf _ _ m2; have e3 := cell_below hbf _ _ m3; have e4 := cell_below hbf _ _ m4; have e5 := cell_below hbf _ _ m5; have e6 := cell_below hbf _ _ m6; clear hbf)
                  | (go_at_call 25; (with_reducible refine (HCW.out _ HBF.out).mono ?_); rintro _ wk ⟨rfl, hbk⟩; have HBK := hidden (HBG.out.trans (hbk.mono HBG.out.size)); have k44 := (HFF.out.below hbk).look 44 (by unfold IntR; omega); have k45 := (HFF.out.below hbk).look 45 (by unfold IntR; omega); rw [hd44] at k44; rw [hd45] at k45; clear hbk)
                  | fail)
                go_ret
                exact ⟨by rw [HCM.eq]; rfl, HBK.out⟩
              | true =>
                cases d44 <;> cases d45
                all_goals
                  go_wp2_with (first
                    | (go_at_call 24; (with_reducible refine (HFW.out).mono ?_); rintro _ wf ⟨rfl, hbf⟩; have HBF := hidden hbf; have HBG := hidden (HB.out.trans (hbf.mono HB.out.size)); have HFF := hidden (HFE.out.below hbf); have e0 := cell_below hbf _ _ m0; have e1 := cell_below hbf _ _ m1; have e2 := cell_below hbf _ _ m2; have e3 := cell_below hbf _ _ m3; have e4 := cell_below hbf _ _ m4; have e5 := cell_below hbf _ _ m5; have e6 := cell_below hbf _ _ m6; clear hbf)
                    | (go_at_call 25; (with_reducible refine (HCW.out _ HBF.out).mono ?_); rintro _ wk ⟨rfl, hbk⟩; have HBK := hidden (HBG.out.trans (hbk.mono HBG.out.size)); have k44 := (HFF.out.below hbk).look 44 (by unfold IntR; omega); have k45 := (HFF.out.below hbk).look 45 (by unfold IntR; omega); rw [hd44] at k44; rw [hd45] at k45; clear hbk)
                    | fail)
                  go_ret
                  exact ⟨by rw [HCM.eq]; rfl, HBK.out⟩
end Go.Proofs.YtkniifopfgeopaaGreat
