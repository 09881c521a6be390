/-
  Body of any certificate: the document's.
-/
import Derived.Test.YtkniifopfgeopaaDoorHSchBodyG
namespace Go.Proofs.YtkniifopfgeopaaDoor
open Go.RowKit
set_option linter.unusedVariables false

set_option maxHeartbeats 1600000 in
set_option maxRecDepth 100000 in
theorem rbodyS_any (x : Ct) (v : CtV x) (w : World) : Calls Tryd.prog 23 #[.agg #[.string x.s, .int .u64 (x.k : Int), .int .i64 x.f, .int .i64 x.t, .bool x.a, .slice x.p x.n x.c]] w (BdG x w) := by
  have HAT := hidden (CtAt.new w x 37)
  have HB0 := hidden ((Below.refl w.heap.size w).alloc (Nat.le_refl _) (.cells #[.string x.s, .int .u64 (x.k : Int), .int .i64 x.f, .int .i64 x.t, .bool x.a, .slice x.p x.n x.c] 37))
  have HNM := hidden (fun W => rName_any x.s W v.sz)
  have HE := hidden (fun W => rgel_any x.k v.kl W)
  cases hn : nameB x.s with
  | false =>
    refine Calls.mono (P := Tryd.prog) ?_ (fun e w' h => bdG_no (bodyE_14 hn) (by decide) h)
    rw [hn] at HNM
    obtain ⟨s, k, f, t, a, p, n, c, g⟩ := x
    simp only at *
    clear v hn HE
    go_enter Tryd.func23, Tryd.ntmps23
    go_upto_region 1 with fail
    generalize World.alloc w _ = w1 at *
    obtain ⟨c0, c1, c2, c3, c4, c5⟩ := HAT.out
    simp only [Nat.zero_add] at c1 c2 c3 c4 c5
    go_wp2_with (first
      | (go_at_call 43; (with_reducible refine (HNM.out _).mono ?_); rintro e w' ⟨rfl, rfl⟩)
      | fail)
    go_ret2
    exact ⟨rfl, HB0.out⟩
  | true =>
    cases hg : gel x.k with
    | false =>
      refine Calls.mono (P := Tryd.prog) ?_ (fun e w' h => bdG_no (bodyE_13 hn hg) (by decide) h)
      rw [hn] at HNM
      rw [hg] at HE
      obtain ⟨s, k, f, t, a, p, n, c, g⟩ := x
      simp only at *
      clear v hn hg
      go_enter Tryd.func23, Tryd.ntmps23
      go_upto_region 1 with fail
      generalize World.alloc w _ = w1 at *
      obtain ⟨c0, c1, c2, c3, c4, c5⟩ := HAT.out
      simp only [Nat.zero_add] at c1 c2 c3 c4 c5
      go_wp2_with (first
        | (go_at_call 43; (with_reducible refine (HNM.out _).mono ?_); rintro e w' ⟨rfl, rfl⟩)
        | (go_at_call 44; (with_reducible refine (HE.out _).mono ?_); rintro e w2 ⟨rfl, hb⟩; clear c0 c1 c2 c3 c4 c5; have HB2 := hidden (HB0.out.trans (hb.mono HB0.out.size)); clear hb)
        | fail)
      go_ret2
      exact ⟨rfl, HB2.out⟩
    | true =>
      by_cases h5 : x.f < 0 ∨ x.t < x.f ∨ 2147483647 < x.t
      · refine Calls.mono (P := Tryd.prog) ?_ (fun e w' h => bdG_no (bodyE_5 hn hg h5) (by decide) h)
        rw [hn] at HNM
        rw [hg] at HE
        obtain ⟨s, k, f, t, a, p, n, c, g⟩ := x
        simp only at *
        clear v hn hg
        go_enter Tryd.func23, Tryd.ntmps23
        go_upto_region 1 with fail
        generalize World.alloc w _ = w1 at *
        have HCA := hidden (fun W (hW : Below w1.heap.size w1 W) => HAT.out.below hW)
        obtain ⟨c0, c1, c2, c3, c4, c5⟩ := HAT.out
        simp only [Nat.zero_add] at c1 c2 c3 c4 c5
        go_upto_region 5 with (first
          | (go_at_call 43; (with_reducible refine (HNM.out _).mono ?_); rintro e w' ⟨rfl, rfl⟩)
          | (go_at_call 44; (with_reducible refine (HE.out _).mono ?_); rintro e w2 ⟨rfl, hb⟩; clear c0 c1 c2 c3 c4 c5; have HBX := hidden hb; have HB2 := hidden (HB0.out.trans (hb.mono HB0.out.size)); clear hb)
          | fail)
        obtain ⟨c0, c1, c2, c3, c4, c5⟩ := HCA.out w2 HBX.out
        simp only [Nat.zero_add] at c1 c2 c3 c4 c5
        clear HCA HBX
        rcases Int.lt_or_le f 0 with b1 | b1
        · clear h5
          go_wp2
          go_ret2
          exact ⟨rfl, HB2.out⟩
        have n1 : ¬ f < 0 := by omega
        rcases Int.lt_or_le 2147483647 f with b2 | b2
        · clear h5
          go_wp2
          go_ret2
          exact ⟨rfl, HB2.out⟩
        have n2 : ¬ 2147483647 < f := by omega
        rcases Int.lt_or_le t 0 with b3 | b3
        · clear h5
          go_wp2
          go_ret2
          exact ⟨rfl, HB2.out⟩
        have n3 : ¬ t < 0 := by omega
        rcases Int.lt_or_le 2147483647 t with b4 | b4
        · clear h5
          go_wp2
          go_ret2
          exact ⟨rfl, HB2.out⟩
        have n4 : ¬ 2147483647 < t := by omega
        have b5 : t < f := by omega
        clear h5
        go_wp2
        go_ret2
        exact ⟨rfl, HB2.out⟩
      · have h0 := bodyE_0 hn hg h5
        exact (rbodyS_ok x (bodyE_ok v h0) w).mono (fun e w' h => bdG_ok h0 h)
end Go.Proofs.YtkniifopfgeopaaDoor
