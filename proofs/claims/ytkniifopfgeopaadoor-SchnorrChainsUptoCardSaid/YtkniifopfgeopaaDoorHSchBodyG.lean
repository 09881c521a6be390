/-
  Body of any certificate: schnorr's and the document's.
-/
import Derived.Test.YtkniifopfgeopaaDoorHSchNameG
namespace Go.Proofs.YtkniifopfgeopaaDoor
open Go.RowKit
set_option linter.unusedVariables false

/-- The numbers are those of their types. -/
structure CtV (x : Ct) : Prop where
  sz : x.s.size ≤ 1000000
  kl : x.k < 18446744073709551616
  f0 : -9223372036854775808 ≤ x.f ∧ x.f ≤ 9223372036854775807
  t0 : -9223372036854775808 ≤ x.t ∧ x.t ≤ 9223372036854775807
/-- The error of Body. -/
def bodyE (x : Ct) : Int := if nameB x.s = false then 14 else if gel x.k = false then 13 else if x.f < 0 ∨ x.t < x.f ∨ 2147483647 < x.t then 5 else 0
theorem bodyE_ok {x : Ct} (v : CtV x) (h : bodyE x = 0) : CtOk x := by
  unfold bodyE at h
  split at h
  · exact absurd h (by decide)
  · rename_i h1
    split at h
    · exact absurd h (by decide)
    · rename_i h2
      split at h
      · exact absurd h (by decide)
      · rename_i h3
        exact ⟨nameB_ok (by simpa using h1), v.kl, by simpa using h2, by omega, by omega, by omega⟩
/-- What Body returns. -/
def BdG (x : Ct) (w : World) (e : Ending) (w' : World) : Prop :=
  ∃ p n c, e = .returned (.tuple #[.slice p n c, .int .i64 (bodyE x)]) ∧ Byt w' p n c (if bodyE x = 0 then bdL x else []) ∧ Below w.heap.size w w'
theorem bdG_ok {x : Ct} {w : World} (h : bodyE x = 0) {e : Ending} {w' : World} (hb : BdTo (bdL x) w e w') : BdG x w e w' := by
  obtain ⟨p, n, c, he, hy, hl⟩ := hb
  exact ⟨p, n, c, by rw [h]; exact he, by rw [if_pos h]; exact hy, hl⟩
theorem bdG_no {x : Ct} {w : World} {E : Int} (h : bodyE x = E) (h0 : E ≠ 0) {e : Ending} {w' : World} (hb : e = .returned (.tuple #[.slice none 0 0, .int .i64 E]) ∧ Below w.heap.size w w') : BdG x w e w' :=
  ⟨none, 0, 0, by rw [h]; exact hb.1, by rw [if_neg (by rw [h]; exact h0)]; exact Byt.nil _ _ _ (Nat.zero_le _), hb.2⟩
theorem bodyE_14 {x : Ct} (h : nameB x.s = false) : bodyE x = 14 := by unfold bodyE; rw [if_pos h]
theorem bodyE_13 {x : Ct} (h : nameB x.s = true) (h2 : gel x.k = false) : bodyE x = 13 := by unfold bodyE; rw [if_neg (by rw [h]; decide), if_pos h2]
theorem bodyE_5 {x : Ct} (h : nameB x.s = true) (h2 : gel x.k = true) (h3 : x.f < 0 ∨ x.t < x.f ∨ 2147483647 < x.t) : bodyE x = 5 := by unfold bodyE; rw [if_neg (by rw [h]; decide), if_neg (by rw [h2]; decide), if_pos h3]
theorem bodyE_0 {x : Ct} (h : nameB x.s = true) (h2 : gel x.k = true) (h3 : ¬ (x.f < 0 ∨ x.t < x.f ∨ 2147483647 < x.t)) : bodyE x = 0 := by unfold bodyE; rw [if_neg (by rw [h]; decide), if_neg (by rw [h2]; decide), if_neg h3]

set_option maxHeartbeats 1600000 in
set_option maxRecDepth 100000 in
theorem bodyS_any (x : Ct) (v : CtV x) (w : World) : Calls Tryd.prog 22 #[.agg #[.string x.s, .int .u64 (x.k : Int), .int .i64 x.f, .int .i64 x.t, .bool x.a, .slice x.p x.n x.c]] w (BdG x w) := by
  have HAT := hidden (CtAt.new w x 37)
  have HB0 := hidden ((Below.refl w.heap.size w).alloc (Nat.le_refl _) (.cells #[.string x.s, .int .u64 (x.k : Int), .int .i64 x.f, .int .i64 x.t, .bool x.a, .slice x.p x.n x.c] 37))
  have HNM := hidden (fun W => isName_any x.s W v.sz)
  have HE := hidden (fun W => gel_any x.k v.kl W)
  cases hn : nameB x.s with
  | false =>
    refine Calls.mono (P := Tryd.prog) ?_ (fun e w' h => bdG_no (bodyE_14 hn) (by decide) h)
    rw [hn] at HNM
    obtain ⟨s, k, f, t, a, p, n, c, g⟩ := x
    simp only at *
    clear v hn HE
    go_enter Tryd.func22, Tryd.ntmps22
    go_upto_region 1 with fail
    generalize World.alloc w _ = w1 at *
    obtain ⟨c0, c1, c2, c3, c4, c5⟩ := HAT.out
    simp only [Nat.zero_add] at c1 c2 c3 c4 c5
    go_wp2_with (first
      | (go_at_call 40; (with_reducible refine (HNM.out _).mono ?_); rintro e w' ⟨rfl, rfl⟩)
      | fail)
    go_ret2
    exact ⟨rfl, HB0.out⟩
  | true =>
    cases hg : gel x.k with
    | false =>
      refine Calls.mono (P := Tryd.prog) ?_ (fun e w' h => bdG_no (bodyE_13 hn hg) (by decide) h)
      rw [hn] at HNM
      rw [hg] at HE
      obtain ⟨s, k, f, t, a, p, n, c, g⟩ := x
      simp only at *
      clear v hn hg
      go_enter Tryd.func22, Tryd.ntmps22
      go_upto_region 1 with fail
      generalize World.alloc w _ = w1 at *
      obtain ⟨c0, c1, c2, c3, c4, c5⟩ := HAT.out
      simp only [Nat.zero_add] at c1 c2 c3 c4 c5
      go_wp2_with (first
        | (go_at_call 40; (with_reducible refine (HNM.out _).mono ?_); rintro e w' ⟨rfl, rfl⟩)
        | (go_at_call 41; (with_reducible refine (HE.out _).mono ?_); rintro e w2 ⟨rfl, hb⟩; clear c0 c1 c2 c3 c4 c5; have HB2 := hidden (HB0.out.trans (hb.mono HB0.out.size)); clear hb)
        | fail)
      go_ret2
      exact ⟨rfl, HB2.out⟩
    | true =>
      by_cases h5 : x.f < 0 ∨ x.t < x.f ∨ 2147483647 < x.t
      · refine Calls.mono (P := Tryd.prog) ?_ (fun e w' h => bdG_no (bodyE_5 hn hg h5) (by decide) h)
        rw [hn] at HNM
        rw [hg] at HE
        obtain ⟨s, k, f, t, a, p, n, c, g⟩ := x
        simp only at *
        clear v hn hg
        go_enter Tryd.func22, Tryd.ntmps22
        go_upto_region 1 with fail
        generalize World.alloc w _ = w1 at *
        have HCA := hidden (fun W (hW : Below w1.heap.size w1 W) => HAT.out.below hW)
        obtain ⟨c0, c1, c2, c3, c4, c5⟩ := HAT.out
        simp only [Nat.zero_add] at c1 c2 c3 c4 c5
        go_upto_region 5 with (first
          | (go_at_call 40; (with_reducible refine (HNM.out _).mono ?_); rintro e w' ⟨rfl, rfl⟩)
          | (go_at_call 41; (with_reducible refine (HE.out _).mono ?_); rintro e w2 ⟨rfl, hb⟩; clear c0 c1 c2 c3 c4 c5; have HBX := hidden hb; have HB2 := hidden (HB0.out.trans (hb.mono HB0.out.size)); clear hb)
          | fail)
        obtain ⟨c0, c1, c2, c3, c4, c5⟩ := HCA.out w2 HBX.out
        simp only [Nat.zero_add] at c1 c2 c3 c4 c5
        clear HCA HBX
        by_cases b1 : f < 0
        · clear h5
          go_wp2
          go_ret2
          exact ⟨rfl, HB2.out⟩
        · by_cases b2 : t < f
          · clear h5
            go_wp2
            go_ret2
            exact ⟨rfl, HB2.out⟩
          · have b3 : (2147483647 : Int) < t := by omega
            clear h5
            go_wp2
            go_ret2
            exact ⟨rfl, HB2.out⟩
      · have h0 := bodyE_0 hn hg h5
        exact (bodyS_ok x (bodyE_ok v h0) w).mono (fun e w' h => bdG_ok h0 h)
end Go.Proofs.YtkniifopfgeopaaDoor
