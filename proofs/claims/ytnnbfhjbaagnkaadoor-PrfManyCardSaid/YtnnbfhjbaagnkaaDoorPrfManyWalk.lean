/-
  The law PrfMany, walked: it returns true for every input, and only adds memory of its own.
-/
import Derived.Test.YtnnbfhjbaagnkaaDoorPrf09
import Derived.Test.YtnnbfhjbaagnkaaDoorPrfPlus
import Derived.Test.YtnnbfhjbaagnkaaDoorRPrfPlus
import Derived.Test.YtnnbfhjbaagnkaaDoorRPrfSplit
import Derived.Test.YtnnbfhjbaagnkaaDoorMod
import Derived.Deep.Cut
import Derived.Deep.CutRange
import Derived.Deep.CutBlock
namespace Go.Proofs.YtnnbfhjbaagnkaaDoor
open Go.RowKit
set_option linter.unusedVariables false

/-- What Plus returns: so many bytes, and the error. -/
def PlusTo (nn : Nat) (P : List Int) (E : Int) (w : World) (e : Ending) (w' : World) : Prop :=
  ∃ p' c', e = .returned (.tuple #[.slice p' nn c', .int .i64 E]) ∧ Byt w' p' nn c' P ∧ Below w.heap.size w w'
theorem plus_one (p q : Option Addr) (n c m d : Nat) (key seed : List Int) (k : Int) (hk : k ≤ 300 ∨ 8160 < k) (w : World) (h : Byt w p n c key) (hn : n ≤ 300) (hs : Byt w q m d seed) (hm : m ≤ 300) (hK : KAt w) :
    ∃ nn P E, Hid (∀ W, Below w.heap.size w W → Calls Tryd.prog 12 #[.slice p n c, .slice q m d, .int .i64 k] W (PlusTo nn P E W)) ∧
      Hid (∀ W, Below w.heap.size w W → Calls Tryd.prog 13 #[.slice p n c, .slice q m d, .int .i64 k] W (PlusTo nn P E W)) := by
  by_cases hb : k < 0 ∨ 8160 < k
  · refine ⟨0, [], 5, fun W hW => (plus_no p q n c m d k hb W).mono ?_, fun W hW => (rplus_no p q n c m d k hb W).mono ?_⟩
    · rintro e w' ⟨rfl, rfl⟩
      exact ⟨none, 0, rfl, Byt.nil _ _ _ (Nat.zero_le _), Below.refl _ _⟩
    · rintro e w' ⟨rfl, rfl⟩
      exact ⟨none, 0, rfl, Byt.nil _ _ _ (Nat.zero_le _), Below.refl _ _⟩
  · obtain ⟨k, rfl⟩ := Int.eq_ofNat_of_zero_le (show 0 ≤ k by omega)
    refine ⟨k, plusS key seed k, 0, fun W hW => ?_, fun W hW => ?_⟩
    · exact plus_yes p q n c m d key seed k (by omega) W (h.below hW) (by omega) (hs.below hW) (by omega) (hK.below hW hK.lt)
    · exact rplus_yes p q n c m d key seed k (by omega) W (h.below hW) (by omega) (hs.below hW) (by omega)

set_option maxHeartbeats 3200000 in
set_option maxRecDepth 100000 in
theorem prfMany_walk (p0 : Option Addr) (n0 c0 : Nat) (xs0 : List Int) (p1 : Option Addr) (n1 c1 : Nat) (xs1 : List Int) (z2 : Int) (p3 : Option Addr) (n3 c3 : Nat) (xs3 : List Int) (w : World) (h0 : Byt w p0 n0 c0 xs0) (r0 : c0 ≤ 140737488351232) (h1 : Byt w p1 n1 c1 xs1) (r1 : c1 ≤ 140737488351232)
    (g2 : -9223372036854775808 ≤ z2 ∧ z2 ≤ 9223372036854775807) (h3 : Its w p3 n3 c3 xs3) (hK : KAt w) :
    Calls Tryd.prog 4 #[.slice p0 n0 c0, .slice p1 n1 c1, .int .i64 z2, .slice p3 n3 c3] w fun e w' => e = .returned (.bool true) ∧ Below w.heap.size w w' := by
  have HA := hidden (awake09_any w hK)
  have H0 := hidden (fun W (hW : Below w.heap.size w W) => h0.below hW)
  have H1 := hidden (fun W (hW : Below w.heap.size w W) => h1.below hW)
  have H3 := hidden (fun W (hW : Below w.heap.size w W) => h3.below hW)
  have HK := hidden (fun W (hW : Below w.heap.size w W) => hK.below hW hK.lt)
  have hc0 := h0.le
  have hc1 := h1.le
  have hc3 := h3.le'
  have HMD := hidden (fun W => mod_any z2 140 W g2 (by omega))
  have hmd : z2 % 140 ≤ 300 := by omega
  clear h0 h1 h3 hK
  go_enter Tryd.func4, Tryd.ntmps4
  by_cases hs : n0 ≤ 300 ∧ n1 ≤ 300 ∧ n3 ≤ 50
  rotate_left
  · by_cases ha : (300 : Int) < n0
    · go_wp2_with (first
        | (go_at_call 7; (with_reducible refine (HA.out).mono ?_); rintro e w1 ⟨rfl, hb⟩; have HB1 := hidden hb; clear hb)
        | fail)
      go_ret
      exact ⟨rfl, HB1.out⟩
    · by_cases hb : (300 : Int) < n1
      · go_wp2_with (first
          | (go_at_call 7; (with_reducible refine (HA.out).mono ?_); rintro e w1 ⟨rfl, hb⟩; have HB1 := hidden hb; clear hb)
          | fail)
        go_ret
        exact ⟨rfl, HB1.out⟩
      · have hd : (50 : Int) < n3 := by omega
        go_wp2_with (first
          | (go_at_call 7; (with_reducible refine (HA.out).mono ?_); rintro e w1 ⟨rfl, hb⟩; have HB1 := hidden hb; clear hb)
          | fail)
        go_ret
        exact ⟨rfl, HB1.out⟩
  obtain ⟨s0, s1, s3⟩ := hs
  have e0 : ¬ (300 : Int) < n0 := by omega
  have e1 : ¬ (300 : Int) < n1 := by omega
  have e3 : ¬ (50 : Int) < n3 := by omega
  go_wp2_with (first
    | (go_at_call 7; (with_reducible refine (HA.out).mono ?_); rintro e w1 ⟨rfl, hb⟩; have HB1 := hidden hb; clear hb)
    | (go_at_call 11; (with_reducible refine (HMD.out _).mono ?_); rintro e w2 ⟨rfl, rfl⟩)
    | fail)
  generalize hw2 : w1.alloc (.cells _ 3) = w2
  have hcl : ∀ j, j < 2 → ∃ z, w2.cell? ⟨w1.heap.size, j, none⟩ = some (.int .i64 z) := by
    intro j hj
    subst hw2
    have : j = 0 ∨ j = 1 := by omega
    rcases this with rfl | rfl
    · exact ⟨z2, by rw [World.cell?_alloc_at _ _ _ _ rfl]; rfl⟩
    · exact ⟨z2 % 140, by rw [World.cell?_alloc_at _ _ _ _ rfl]; rfl⟩
  have hb2 : Below w.heap.size w w2 := by
    rw [← hw2]
    exact HB1.out.alloc HB1.out.size _
  clear hw2
  have HC := hidden (fun j (hj : j < 2) W (hW : Below w2.heap.size w2 W) => (hcl j hj).imp fun z hz => cell_below hW _ _ hz)
  have HB2 := hidden hb2
  have HPL := hidden (fun k hk W (hW : Below w.heap.size w W) => plus_one p0 p1 n0 c0 n1 c1 xs0 xs1 k hk W (H0.out W hW) s0 (H1.out W hW) s1 (HK.out W hW))
  clear hcl hb2 HB1 HA HMD hmd
  go_loopw [10, 44] (fun _ i wr => ∃ j : Nat, j ≤ 2 ∧ i = .int .i64 j ∧ Below w2.heap.size w2 wr) (fun _ i _ => 2 - (intOf i).toNat)
  case atStart => exact ⟨0, by omega, rfl, Below.refl _ _⟩
  case round =>
    obtain ⟨j, hj, rfl, hb⟩ := hrel
    have HB := hidden hb
    clear hb
    by_cases hlt : j < 2
    · have hlt' : (j : Int) < 2 := by omega
      obtain ⟨z, hz⟩ := HC.out j hlt wr HB.out
      go_upto_region 8 with fail
      go_cut [53] from 48 to 53 (fun x wx => ∃ b : Bool, x = .bool b ∧ (b = false → z ≤ 300 ∨ 8160 < z) ∧ Below w2.heap.size w2 wx)
      case first =>
        by_cases k1 : 300 < z
        · by_cases k2 : z ≤ 8160
          · go_wp2
            go_meet
            case rel => exact ⟨true, rfl, by simp, HB.out⟩
          · go_wp2
            go_meet
            case rel => exact ⟨false, rfl, fun _ => by omega, HB.out⟩
        · go_wp2
          go_meet
          case rel => exact ⟨false, rfl, fun _ => by omega, HB.out⟩
      case rest =>
       obtain ⟨bb, rfl, hbb, hbc⟩ := hcut
       have HBB := hidden hbb
       have HBX := hidden hbc
       clear hbb hbc hz
       rename World => wd
       go_upto_if 53 with fail
       go_cut [10] from 48 to 53 (fun x wx => ∃ k : Int, x = .int .i64 k ∧ (k ≤ 300 ∨ 8160 < k) ∧ Below w2.heap.size w2 wx)
       case first =>
        cases bb with
        | true =>
          go_wp2
          go_meet
          case rel => exact ⟨300, rfl, by omega, HBX.out⟩
        | false =>
          go_wp2
          go_meet
          case rel => exact ⟨z, rfl, by have := HBB.out; simpa using this, HBX.out⟩
       case rest =>
         obtain ⟨k, rfl, hk, hb⟩ := hcut
         have hbw := HB2.out.trans (hb.mono HB2.out.size)
         obtain ⟨nn, P, E, HP, HR⟩ := HPL.out k hk wc hbw
         have HEQ : Hid (∀ W q1 q2 d1 d2, Byt W q1 nn d1 P → Byt W q2 nn d2 P → Calls Tryd.prog 8 #[.slice q1 nn d1, .slice q2 nn d2] W fun e w' => e = .returned (.bool true) ∧ ∃ r, w' = W.drewN r) := fun W q1 q2 d1 d2 h1 h2 => by
           have := requal_any q1 q2 nn d1 nn d2 P P W h1 h2
           rwa [show decide (P = P) = true from decide_eq_true rfl] at this
         have HBC := hidden hb
         have hEE : (E != E) = false := by simp
         clear hb hbw HB
         go_wp2_with (first
           | (go_at_call 12; (with_reducible refine (HP.out wc (Below.refl _ _)).mono ?_); rintro e w5 ⟨q5, d5, rfl, hy5, hb5⟩; have HB5 := hidden hb5; have H5 := hidden hy5; clear hb5 hy5)
           | (go_at_call 13; (with_reducible refine (HR.out w5 HB5.out).mono ?_); rintro e w6 ⟨q6, d6, rfl, hy6, hb6⟩; have HB6 := hidden (HB5.out.trans (hb6.mono HB5.out.size)); have H6 := hidden hy6; have H56 := hidden (H5.out.below hb6); clear hb6 hy6)
           | (go_at_call 8; (with_reducible refine (HEQ.out w6 _ _ _ _ H56.out H6.out).mono ?_); rintro e w7 ⟨rfl, r7, rfl⟩; have HB7 := hidden (HB6.out.trans (below_drewN r7)))
           | fail)
         go_roundw
         case rel => exact ⟨j + 1, by omega, by go_num, HBC.out.trans (HB7.out.mono HBC.out.size)⟩
         case measure => simp [intOf]; omega
    · have hlt' : ¬ (j : Int) < 2 := by omega
      have HBW := hidden (HB2.out.trans (HB.out.mono HB2.out.size))
      have HW0 := hidden (RowG.nil KIn NIn wr w.heap.size)
      clear HC HPL HB HB2
      go_wp2_with fail
      rename World => wo
      go_loopw [15, 80] (fun v i wr => ∃ (j : Nat) (l : List Int), j ≤ n3 ∧ i = .int .i64 j ∧ l.length = j ∧ RowG KIn NIn wr w.heap.size v l ∧ Below w.heap.size w wr) (fun _ i _ => n3 - (intOf i).toNat)
      case atStart => exact ⟨0, [], by omega, rfl, rfl, HW0.out, HBW.out⟩
      case round =>
        obtain ⟨i, l, hi, rfl, hl, hr, hb⟩ := hrel
        have HRW := hidden hr
        have HB := hidden hb
        have HLJ := Is.mk hl
        clear hr hb hl HW0 HBW
        by_cases hli : i < n3
        · have hli' : (i : Int) < n3 := by omega
          obtain ⟨b, o, rfl, c0⟩ := (H3.out wr HB.out).at_ i hli
          have hzr := (H3.out wr HB.out).at_rng i
          generalize xs3.getD i 0 = z at c0 hzr
          have HMZ := hidden (mod_any z 9 wr hzr (by omega))
          have hw : IntKind.i64.wrap (z % 9 - 1) = z % 9 - 1 := by rw [IntKind.wrap_i64]; omega
          have hbz : -9223372036854775808 ≤ z % 9 - 1 ∧ z % 9 - 1 ≤ 9223372036854775807 := by omega
          go_wp2_with (first
            | (go_at_call 11; (with_reducible refine (HMZ.out).mono ?_); rintro e w2 ⟨rfl, rfl⟩)
            | (at_builtin; go_loud (refine wpList_append_g knownIn (by simp [NIn]) _ rfl _ _ rfl w.heap.size _ l rfl (HRW.out.alloc _) _ 1 1 [z % 9 - 1] rfl (srcIn _ (z % 9 - 1) _) (fun x hx => by rw [List.mem_singleton.1 hx]; exact hbz) ?b1 ?b2 ?b3 ?_))
            | fail)
          case b1 => rw [HLJ.eq]; unfold maxLen; omega
          case b2 => rw [HLJ.eq]; omega
          case b3 => have := HB.out.size; simp; omega
          intro v4 w4 hr4 hg4
          have HB4 := hidden ((HB.out.alloc HB.out.size _).grown hg4 (by have := HB.out.size; simp; omega) (fun k hk => (HRW.out.lt k hk).1))
          have HR4 := hidden hr4
          clear hr4 hg4 HRW HB
          go_wp2
          go_roundw
          case rel => exact ⟨i + 1, l ++ [z % 9 - 1], by omega, by go_num, by simp [HLJ.eq], HR4.out, HB4.out⟩
          case measure => simp [intOf]; omega
        · have hli' : ¬ (i : Int) < n3 := by omega
          obtain ⟨q, d, rfl, hits⟩ := HRW.out.its HLJ.eq
          have HIT := hidden hits
          clear hits HRW
          have hin : i ≤ 50 := by omega
          go_wp2_with fail
          generalize hw5 : wr.alloc (.cells _ 27) = w5
          have hcl : ∀ j, j < 2 → ∃ p n c zs, w5.cell? ⟨wr.heap.size, j, none⟩ = some (.slice p n c) ∧ n ≤ 50 ∧ Its w5 p n c zs := by
            intro j hj
            subst hw5
            have hbe : Below wr.heap.size wr (wr.alloc (.cells #[.slice p3 n3 c3, .slice q i d] 27)) := (Below.refl _ _).alloc (Nat.le_refl _) _
            have : j = 0 ∨ j = 1 := by omega
            rcases this with rfl | rfl
            · exact ⟨p3, n3, c3, xs3, by rw [World.cell?_alloc_at _ _ _ _ rfl]; rfl, s3, (H3.out wr HB.out).below hbe⟩
            · exact ⟨q, i, d, l, by rw [World.cell?_alloc_at _ _ _ _ rfl]; rfl, hin, HIT.out.below hbe⟩
          have hb5 : Below w.heap.size w w5 := by
            rw [← hw5]
            exact HB.out.alloc HB.out.size _
          clear hw5
          have HC := hidden hcl
          have HB5 := hidden hb5
          clear hcl hb5 HIT HB HLJ
          rename World => wp5
          go_loopw [95] (fun i wx => ∃ j : Nat, j ≤ 2 ∧ i = .int .i64 j ∧ Below wp5.heap.size wp5 wx) (fun i _ => 2 - (intOf i).toNat)
          case atStart => exact ⟨0, by omega, rfl, Below.refl _ _⟩
          case round =>
            obtain ⟨j, hj, rfl, hb⟩ := hrel
            have HBX := hidden hb
            clear hb
            by_cases hlt : j < 2
            · have hlt' : (j : Int) < 2 := by omega
              obtain ⟨p, n, c, zs, hc, hn, hits⟩ := HC.out j hlt
              have c0 := cell_below HBX.out _ _ hc
              have HS : Hid (∀ W, Below wp5.heap.size wp5 W → Calls Tryd.prog 14 #[.slice p1 n1 c1, .slice p n c] W (SplitTo (splitS xs1 zs) W)) := fun W hW =>
                psplit_any p1 p n1 c1 n c xs1 zs W (H1.out W (HB5.out.trans (hW.mono HB5.out.size))) (by omega) (hits.below hW) (by omega)
              have HR : Hid (∀ W, Below wp5.heap.size wp5 W → Calls Tryd.prog 15 #[.slice p1 n1 c1, .slice p n c] W (SplitTo (splitS xs1 zs) W)) := fun W hW =>
                rsplit_any p1 p n1 c1 n c xs1 zs W (H1.out W (HB5.out.trans (hW.mono HB5.out.size))) (by omega) (hits.below hW) (by omega)
              generalize splitS xs1 zs = R at HS HR
              have HS' : Hid (∀ W, Below wp5.heap.size wp5 W → Calls Tryd.prog 14 #[.slice p1 n1 c1, .slice p n c] W fun e w' => ∃ (q : Option Addr) (m d : Nat) (l : List Bl), e = .returned (.tuple #[.slice q m d, .bool R.isSome]) ∧ RdG KBl DBl w' q m d l ∧ l.map Bl.xs = R.getD [] ∧ Below W.heap.size W w') := fun W hW => (HS.out W hW).mono (by
                rintro e w' ⟨v, l, rfl, hr, hm, -, hb⟩
                obtain ⟨q, d, rfl, hrd⟩ := hr.bls rfl
                exact ⟨q, _, d, l, rfl, hrd, hm, hb⟩)
              have HR' : Hid (∀ W, Below wp5.heap.size wp5 W → Calls Tryd.prog 15 #[.slice p1 n1 c1, .slice p n c] W fun e w' => ∃ (q : Option Addr) (m d : Nat) (l : List Bl), e = .returned (.tuple #[.slice q m d, .bool R.isSome]) ∧ RdG KBl DBl w' q m d l ∧ l.map Bl.xs = R.getD [] ∧ Below W.heap.size W w') := fun W hW => (HR.out W hW).mono (by
                rintro e w' ⟨v, l, rfl, hr, hm, -, hb⟩
                obtain ⟨q, d, rfl, hrd⟩ := hr.bls rfl
                exact ⟨q, _, d, l, rfl, hrd, hm, hb⟩)
              obtain ⟨bo, hbo⟩ : ∃ b, R.isSome = b := ⟨_, rfl⟩
              rw [hbo] at HS' HR'
              have hbb : (bo != bo) = false := by simp
              clear hc hits hbo HS HR
              go_wp2_with (first
                | (go_at_call 14; (with_reducible refine (HS'.out _ HBX.out).mono ?_); rintro e w6 ⟨q6, m6, d6, l6, rfl, hr6, hm6, hb6⟩; have HB6 := hidden (HBX.out.trans (hb6.mono HBX.out.size)); have HR6 := hidden hr6; have HM6 := hidden hm6; clear hb6 hr6 hm6)
                | (go_at_call 15; (with_reducible refine (HR'.out w6 HB6.out).mono ?_); rintro e w7 ⟨q7, m7, d7, l7, rfl, hr7, hm7, hb7⟩; have HB7 := hidden (HB6.out.trans (hb7.mono HB6.out.size)); have HSM := hidden (same09_any q6 q7 m6 d6 m7 d7 l6 l7 w7 (HR6.out.below hb7) hr7 (HM6.out.trans hm7.symm)); clear hb7 hr7 hm7)
                | (go_at_call 16; (with_reducible refine (HSM.out).mono ?_); rintro e w8 ⟨rfl, hb8⟩; have HB8 := hidden (HB7.out.trans (hb8.mono HB7.out.size)); clear hb8)
                | fail)
              go_roundw
              case rel => exact ⟨j + 1, by omega, by go_num, HB8.out⟩
              case measure => simp [intOf]; omega
            · have hlt' : ¬ (j : Int) < 2 := by omega
              go_wp2
              go_ret
              exact ⟨rfl, HB5.out.trans (HBX.out.mono HB5.out.size)⟩
end Go.Proofs.YtnnbfhjbaagnkaaDoor
