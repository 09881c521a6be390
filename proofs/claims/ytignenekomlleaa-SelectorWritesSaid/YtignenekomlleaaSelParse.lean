/-
  What package selector's read and Parse return, for any bytes.
-/
import Derived.Test.YtignenekomlleaaSelRead2
import Derived.Test.YtignenekomlleaaSelBuild
namespace Go.Proofs.Ytignenekomlleaa
open Go.RowKit
set_option linter.unusedVariables false

theorem one_len {xs : List Int} {s : Sl} {k : Nat} (h : oneS xs = some (s, k)) : k ≤ xs.length ∧ (k = 16 ∨ k = 40) := by
  unfold oneS at h
  split at h
  · cases h
  split at h
  · rename_i h1
    obtain ⟨-, rfl⟩ := Prod.mk.inj (Option.some.inj h)
    exact ⟨h1.2.2, Or.inl rfl⟩
  split at h
  · rename_i h1
    obtain ⟨-, rfl⟩ := Prod.mk.inj (Option.some.inj h)
    exact ⟨h1.2.2, Or.inr rfl⟩
  · cases h
theorem nAt_bd (xs : List Int) (hr : ∀ x ∈ xs, 0 ≤ x ∧ x ≤ 255) (a k : Nat) (hk : k ≤ 8) : 0 ≤ nAt xs a k ∧ nAt xs a k ≤ 18446744073709551615 := by
  have hb := val_bd ((xs.drop a).take k) (rng_take (rng_drop hr _) _)
  have hl : ((xs.drop a).take k).length ≤ 8 := by simp; omega
  have h8 := pow256_le hl
  have e : (256 : Int) ^ 8 = 18446744073709551616 := by decide
  rw [e] at h8
  unfold nAt
  omega
theorem nAt_two (xs : List Int) (hr : ∀ x ∈ xs, 0 ≤ x ∧ x ≤ 255) (a k : Nat) (hk : k ≤ 2) : nAt xs a k ≤ 65535 := by
  have hb := val_bd ((xs.drop a).take k) (rng_take (rng_drop hr _) _)
  have hl : ((xs.drop a).take k).length ≤ 2 := by simp; omega
  have h8 := pow256_le hl
  have e : (256 : Int) ^ 2 = 65536 := by decide
  rw [e] at h8
  unfold nAt
  omega
theorem one_fit {xs : List Int} (hr : ∀ x ∈ xs, 0 ≤ x ∧ x ≤ 255) {s : Sl} {k : Nat} (h : oneS xs = some (s, k)) : FitS s := by
  have h0 := rng_getD hr 1
  have b := nAt_bd xs hr
  have t := nAt_two xs hr
  unfold oneS at h
  split at h
  · cases h
  split at h
  · obtain ⟨rfl, -⟩ := Prod.mk.inj (Option.some.inj h)
    have b1 := b 4 2 (by omega)
    have b2 := b 6 2 (by omega)
    have t1 := t 4 2 (by omega)
    have t2 := t 6 2 (by omega)
    exact ⟨by simp only; omega, by simp only; omega, by simp only; omega, ⟨by simp, by simp, b 8 4 (by omega)⟩, ⟨by simp, by simp, b 12 4 (by omega)⟩⟩
  split at h
  · obtain ⟨rfl, -⟩ := Prod.mk.inj (Option.some.inj h)
    have b1 := b 4 2 (by omega)
    have b2 := b 6 2 (by omega)
    have t1 := t 4 2 (by omega)
    have t2 := t 6 2 (by omega)
    exact ⟨by simp only; omega, by simp only; omega, by simp only; omega, ⟨by simp, b 8 8 (by omega), b 16 8 (by omega)⟩, ⟨by simp, b 24 8 (by omega), b 32 8 (by omega)⟩⟩
  · cases h

/-- What read returns. -/
def ReadL (w : World) (r : Option (List Sl)) (e : Ending) (w' : World) : Prop := Below w.heap.size w w' ∧ match r with
  | none => ∃ v, e = .returned (.tuple #[v, .bool false])
  | some l => ∃ v, e = .returned (.tuple #[v, .bool true]) ∧ RowG KSl NSl w' w.heap.size v l

set_option maxHeartbeats 1600000 in
set_option maxRecDepth 100000 in
theorem sread_any (p : Option Addr) (n c : Nat) (xs : List Int) (w : World) (h : Byt w p n c xs) (N : Nat) (hN : N ≤ 255) (r : Option (List Sl)) (hr : manyS N xs = r) :
    Calls Try.prog 48 #[.slice p n c, .int .i64 N] w (ReadL w r) := by
  have HX := hidden h
  have HR := hidden hr
  clear h hr
  go_enter Try.func48, Try.ntmps48
  go_wp2
  go_loopw [0, 6, 11] (fun b v i wr => ∃ (j : Nat) (l : List Sl) (p' : Option Addr) (n' c' : Nat) (ys : List Int), i = .int .i64 j ∧ j ≤ N ∧ l.length = j ∧ b = .slice p' n' c' ∧ Byt w p' n' c' ys ∧ (manyS (N - j) ys).map (l ++ ·) = r ∧ RowG KSl NSl wr w.heap.size v l ∧ Below w.heap.size w wr) (fun _ _ i _ => N - (intOf i).toNat)
  case atStart => exact ⟨0, [], p, n, c, xs, rfl, by omega, rfl, rfl, HX.out, by rw [← HR.out]; simp, RowG.nil _ _ _ _, Below.refl _ _⟩
  case round =>
    obtain ⟨j, l, p', n', c', ys, rfl, hj, hlj, rfl, hby, hm, hrow, hb⟩ := hrel
    obtain ⟨po, co, rfl⟩ := hrow.form rfl
    have HLJ := hidden hlj
    have hl255 : l.length ≤ 255 := by omega
    clear hlj
    have HY := hidden hby
    have HRW := hidden hrow
    have HB := hidden hb
    have hn' := hby.le
    have hlen := hidden hby.len
    clear HX HR hrow
    by_cases hlt : j < N
    · have hlt' : (j : Int) < N := by omega
      rw [show N - j = (N - (j + 1)) + 1 by omega] at hm
      obtain ⟨o, ho⟩ : ∃ o, oneS ys = o := ⟨_, rfl⟩
      have HO := hidden (fun w (h : Byt w p' n' c' ys) => readOne_any p' n' c' ys w h o ho)
      have HYW := hidden (hby.below hb)
      unfold manyS at hm
      rw [ho] at hm
      cases o with
      | none =>
        have HM := hidden hm
        clear hm ho hby hb
        go_wp2_with (first
          | (go_at_call 72; (with_reducible refine (HO.out _ HYW.out).mono ?_); rintro e w1 ⟨hb1, rfl⟩; have HB1 := hidden (HB.out.trans (hb1.mono HB.out.size)); clear hb1)
          | fail)
        go_ret2
        have hM := HM.out
        simp only [Option.map_none] at hM
        subst hM
        exact ⟨HB1.out.alloc HB1.out.size _, _, rfl⟩
      | some sk =>
        obtain ⟨s, k'⟩ := sk
        simp only at hm
        obtain ⟨hk1, hk2⟩ := one_len ho
        rw [hby.len] at hk1
        have hfit := one_fit hby.rng ho
        obtain ⟨bb, oo, rfl, -⟩ := hby.at_ (by omega)
        have hpart := hby.part k' n' hk1 (Nat.le_refl _)
        rw [List.take_of_length_le (by rw [hby.len]; omega)] at hpart
        have hcap := hby.cap
        have HF := hidden hfit
        have HM := hidden hm
        have HPA := hidden hpart
        clear hm ho hby hb hfit hpart hk2
        have hcc : (c' = k' ∧ n' = k') ∨ c' ≠ k' := by omega
        rcases hcc with ⟨rfl, rfl⟩ | hcc
        all_goals
          first | (rw [if_pos rfl, Nat.sub_self] at HPA) | (rw [if_neg hcc, Option.map_some, WideShapes.add_plain] at HPA; replace HPA : Hid (Byt w (some ⟨bb, oo + k', none⟩) (n' - k') (c' - k') (List.drop k' ys)) := HPA)
          go_wp2_with (first
            | (go_at_call 72; (with_reducible refine (HO.out _ HYW.out).mono ?_); rintro e w1 ⟨hb1, rfl⟩; have HB1 := hidden ((HB.out.trans (hb1.mono HB.out.size)).alloc (HB.out.trans (hb1.mono HB.out.size)).size (.cells #[.int .i64 s.p, .int .i64 s.a, .int .i64 s.b, .int .i64 s.lo.f, .int .u64 s.lo.h, .int .u64 s.lo.l, .int .i64 s.hi.f, .int .u64 s.hi.h, .int .u64 s.hi.l] 48)); have HR1 := hidden (((HRW.out.below hb1).alloc (.cells #[.int .i64 s.p, .int .i64 s.a, .int .i64 s.b, .int .i64 s.lo.f, .int .u64 s.lo.h, .int .u64 s.lo.l, .int .i64 s.hi.f, .int .u64 s.hi.h, .int .u64 s.hi.l] 48)).alloc (.cells #[.int .i64 s.p, .int .i64 s.a, .int .i64 s.b, .int .i64 s.lo.f, .int .u64 s.lo.h, .int .u64 s.lo.l, .int .i64 s.hi.f, .int .u64 s.hi.h, .int .u64 s.hi.l] 48)); have HSR : Hid (SrcG KSl ((w1.alloc (.cells #[.int .i64 s.p, .int .i64 s.a, .int .i64 s.b, .int .i64 s.lo.f, .int .u64 s.lo.h, .int .u64 s.lo.l, .int .i64 s.hi.f, .int .u64 s.hi.h, .int .u64 s.hi.l] 48)).alloc (.cells #[.int .i64 s.p, .int .i64 s.a, .int .i64 s.b, .int .i64 s.lo.f, .int .u64 s.lo.h, .int .u64 s.lo.l, .int .i64 s.hi.f, .int .u64 s.hi.h, .int .u64 s.hi.l] 48)) (some ⟨w1.heap.size + 1, 0, none⟩) 1 [s]) := hidden (by have := srcSl (w1.alloc (.cells #[.int .i64 s.p, .int .i64 s.a, .int .i64 s.b, .int .i64 s.lo.f, .int .u64 s.lo.h, .int .u64 s.lo.l, .int .i64 s.hi.f, .int .u64 s.hi.h, .int .u64 s.hi.l] 48)) s 48; simpa using this); clear hb1)
            | (at_builtin; go_loud (refine wpList_append_g knownSl (by simp [NSl]) _ rfl _ _ rfl w.heap.size _ l rfl HR1.out _ 1 1 [s] rfl HSR.out (fun x hx => by rw [List.mem_singleton.1 hx]; exact HF.out) (by unfold maxLen; omega) (by omega) (by have := HB1.out.size; simp at this ⊢; omega) ?_))
            | fail)
          intro v' w4 hr4 hg4
          have HB4 := hidden ((HB1.out.alloc HB1.out.size (.cells #[.int .i64 s.p, .int .i64 s.a, .int .i64 s.b, .int .i64 s.lo.f, .int .u64 s.lo.h, .int .u64 s.lo.l, .int .i64 s.hi.f, .int .u64 s.hi.h, .int .u64 s.hi.l] 48)).grown hg4 (by have := HB1.out.size; simp at this ⊢; omega) (fun j hj => (HR1.out.lt j hj).1))
          have HR4 := hidden hr4
          clear hr4 hg4 HR1 HB1
          go_wp2
          go_roundw
          case rel => exact ⟨j + 1, l ++ [s], _, _, _, _, by go_num, by omega, by have := HLJ.out; simp; omega, rfl, HPA.out, by have hM := HM.out; rw [Option.map_map] at hM; rw [← hM]; congr 1; funext x; simp, HR4.out, HB4.out⟩
          case measure => simp [intOf]; omega
    · obtain rfl : j = N := by omega
      rw [Nat.sub_self] at hm
      unfold manyS at hm
      rw [hby.len] at hm
      by_cases h0 : n' = 0
      · subst h0
        simp at hm
        subst hm
        clear hby hb
        go_wp2
        go_ret2
        exact ⟨HB.out, _, rfl, HRW.out⟩
      · have h0' : ((n' : Int) == 0) = false := by simp; omega
        rw [if_neg h0] at hm
        simp only [Option.map_none] at hm
        subst hm
        clear hby hb
        go_wp2
        go_ret2
        exact ⟨HB.out, _, rfl⟩

/-- What Parse returns. -/
def ParsedS (w : World) (r : List Sl × Int) (e : Ending) (w' : World) : Prop := ∃ v, e = .returned (.tuple #[v, .int .i64 r.2]) ∧ RowG KSl NSl w' w.heap.size v r.1 ∧ Below w.heap.size w w'
theorem parsed_none (w w' : World) (E : Int) (r : List Sl × Int) (h : ([], E) = r) (hb : Below w.heap.size w w') : ParsedS w r (.returned (.tuple #[.slice none 0 0, .int .i64 E])) w' := by
  subst h
  exact ⟨_, rfl, RowG.nil _ _ _ _, hb⟩

set_option maxHeartbeats 1600000 in
set_option maxRecDepth 100000 in
theorem sparse_any (p : Option Addr) (n c : Nat) (xs : List Int) (w : World) (h : Byt w p n c xs) (r : List Sl × Int) (hr : parseS xs = r) :
    Calls Try.prog 19 #[.slice p n c] w (ParsedS w r) := by
  have hn := h.le
  unfold parseS at hr
  rw [h.len] at hr
  by_cases h4 : n < 4
  · rw [if_pos h4] at hr
    have HR := hidden hr
    clear h hr
    go_enter Try.func19, Try.ntmps19
    go_wp2
    go_ret2
    exact parsed_none _ _ _ _ HR.out (Below.refl _ _)
  rw [if_neg h4] at hr
  obtain ⟨bb, oo, rfl, hcell⟩ := h.at_ (by omega)
  have c0 := hcell 0 (by omega)
  have x0 := rng_getD h.rng 0
  obtain ⟨N, hN⟩ := Int.eq_ofNat_of_zero_le x0.1
  rw [hN] at hr c0 x0
  rw [Nat.add_zero] at c0
  have hcap := h.cap
  by_cases h0 : (N : Int) = 0
  · rw [if_pos h0] at hr
    have HR := hidden hr
    have hN0 : N = 0 := by omega
    subst hN0
    clear h hr hcell hN h0
    go_enter Try.func19, Try.ntmps19
    go_wp2_with (first
      | (go_at_call 47; (refine (count_any _ _).mono ?_); rintro e w' ⟨rfl, rfl⟩; rw [show cntE 0 = 8 from rfl])
      | fail)
    go_ret2
    exact parsed_none _ _ _ _ HR.out (Below.refl _ _)
  rw [if_neg h0] at hr
  by_cases h16 : (N : Int) > 16
  · rw [if_pos h16] at hr
    have hc10 : cntE N = 10 := by unfold cntE; rw [if_neg (by omega), if_pos (by omega)]
    have HR := hidden hr
    clear h hr hcell hN h0
    go_enter Try.func19, Try.ntmps19
    go_wp2_with (first
      | (go_at_call 47; (with_reducible refine (count_any _ _).mono ?_); rintro e w' ⟨rfl, rfl⟩; rw [hc10])
      | fail)
    go_ret2
    exact parsed_none _ _ _ _ HR.out (Below.refl _ _)
  rw [if_neg h16] at hr
  have hc0 : cntE N = 0 := by unfold cntE; rw [if_neg (by omega), if_neg (by omega)]
  have hpart := h.part 4 n (by omega) (Nat.le_refl _)
  rw [List.take_of_length_le (by rw [h.len]; omega)] at hpart
  obtain ⟨o, ho⟩ : ∃ o, manyS N (xs.drop 4) = o := ⟨_, rfl⟩
  rw [Int.toNat_natCast, ho] at hr
  have HR := hidden hr
  have HRD := hidden (fun q m d (h : Byt w q m d (xs.drop 4)) => sread_any q m d _ w h N (by omega) o ho)
  have HP := hidden hpart
  clear h hr hcell hN ho hpart
  have hcc : (c = 4 ∧ n = 4) ∨ c ≠ 4 := by omega
  rcases hcc with ⟨rfl, rfl⟩ | hcc
  all_goals
    first | (rw [if_pos rfl, Nat.sub_self] at HP) | (rw [if_neg hcc, Option.map_some, WideShapes.add_plain] at HP)
    cases o with
    | none =>
      go_enter Try.func19, Try.ntmps19
      go_wp2_with (first
        | (go_at_call 47; (with_reducible refine (count_any _ _).mono ?_); rintro e w' ⟨rfl, rfl⟩; rw [hc0])
        | (go_at_call 48; (with_reducible refine (HRD.out _ _ _ HP.out).mono ?_); rintro e w1 ⟨hb, v, rfl⟩; have HB1 := hidden hb; clear hb)
        | fail)
      go_ret2
      exact parsed_none _ _ _ _ HR.out HB1.out
    | some l =>
      obtain ⟨z, hz⟩ : ∃ z, errL l = z := ⟨_, rfl⟩
      have hr := HR.out
      simp only at hr
      rw [hz] at hr
      by_cases hz0 : z = 0
      · subst hz0
        rw [if_neg (by simp)] at hr
        have HR2 := hidden hr
        clear hr HR
        go_enter Try.func19, Try.ntmps19
        go_wp2_with (first
          | (go_at_call 47; (with_reducible refine (count_any _ _).mono ?_); rintro e w' ⟨rfl, rfl⟩; rw [hc0])
          | (go_at_call 48; (with_reducible refine (HRD.out _ _ _ HP.out).mono ?_); rintro e w1 ⟨hb, v, rfl, hrow⟩; have HB1 := hidden hb; have HRW := hidden hrow; obtain ⟨q, d, rfl, hrd⟩ := hrow.rd (D := DSlr) rfl (fun _ h => h); have HC := hidden (each_any q _ d l w1 hrd 0 hz); clear hb hrow hrd)
          | (go_at_call 49; (with_reducible refine (HC.out).mono ?_); rintro e w2 ⟨rfl, hb2⟩; have HRW2 := hidden (HRW.out.below hb2); have HB2 := hidden (HB1.out.trans (hb2.mono HB1.out.size)); clear hb2)
          | fail)
        go_ret2
        rw [← HR2.out]
        exact ⟨_, rfl, HRW2.out, HB2.out⟩
      · rw [if_pos hz0] at hr
        have hz' : (z != 0) = true := by simpa using hz0
        have HR2 := hidden hr
        clear hr HR hz0
        go_enter Try.func19, Try.ntmps19
        go_wp2_with (first
          | (go_at_call 47; (with_reducible refine (count_any _ _).mono ?_); rintro e w' ⟨rfl, rfl⟩; rw [hc0])
          | (go_at_call 48; (with_reducible refine (HRD.out _ _ _ HP.out).mono ?_); rintro e w1 ⟨hb, v, rfl, hrow⟩; have HB1 := hidden hb; obtain ⟨q, d, rfl, hrd⟩ := hrow.rd (D := DSlr) rfl (fun _ h => h); have HC := hidden (each_any q _ d l w1 hrd z hz); clear hb hrow hrd)
          | (go_at_call 49; (with_reducible refine (HC.out).mono ?_); rintro e w2 ⟨rfl, hb2⟩; have HB2 := hidden (HB1.out.trans (hb2.mono HB1.out.size)); clear hb2)
          | fail)
        go_ret2
        exact parsed_none _ _ _ _ HR2.out HB2.out
end Go.Proofs.Ytignenekomlleaa
