/-
  What the document's own package writes of an address.
-/
import Derived.Test.YtignenekomlleaaSelPut
import Derived.Test.YtignenekomlleaaRPut
namespace Go.Proofs.Ytignenekomlleaa
open Go.RowKit
set_option linter.unusedVariables false

theorem rsize_any (f : Int) (w : World) :
    Calls Try.prog 44 #[.int .i64 f] w fun e w' => e = .returned (.int .i64 (sizeA f)) ∧ w = w' := by
  by_cases h4 : f = 4
  · subst h4
    go_enter Try.func44, Try.ntmps44
    go_wp2
    go_ret
    exact ⟨rfl, rfl⟩
  · have h4' : (f == 4) = false := by simpa using h4
    obtain ⟨z, hz⟩ : ∃ z : Int, ((sizeA f : Nat) : Int) = z := ⟨_, rfl⟩
    have e : z = 16 := by rw [← hz]; unfold sizeA; rw [if_neg h4]; rfl
    rw [hz]
    subst e
    clear hz h4
    go_enter Try.func44, Try.ntmps44
    go_wp2
    go_ret
    exact ⟨rfl, rfl⟩

theorem rput_b (p : Option Addr) (n c : Nat) (xs : List Int) (w : World) (h : Byt w p n c xs) (hb : n ≤ 1048576) (v : Int) (hv : 0 ≤ v ∧ v ≤ 18446744073709551615) (k : Nat) (h1 : 1 ≤ k) (h8 : k ≤ 8) (K : Int) (hK : K = k) :
    Calls Try.prog 37 #[.slice p n c, .int .u64 v, .int .i64 K] w (GotB w (xs ++ be k v)) := by
  subst hK
  have hl : (xs ++ be k v).length = n + k := by rw [List.length_append, be_len, h.len]
  refine (rput_yes p n c xs w h (by omega) v hv k h1 h8).mono ?_
  rintro e w' ⟨u, rfl, hown, hbel⟩
  obtain ⟨q, d, rfl, hby⟩ := hown.bytN rfl hl (rng_append h.rng (be_rng _ _))
  exact ⟨q, _, d, rfl, hl, hown, hby, hbel⟩

set_option maxHeartbeats 800000 in
theorem rpad_any (p : Option Addr) (n c : Nat) (xs : List Int) (w : World) (h : Byt w p n c xs) (hb : n ≤ 1000000) (x : Ad) (fit : FitA x) :
    Calls Try.prog 45 #[.slice p n c, (.agg #[.int .i64 x.f, .int .u64 x.h, .int .u64 x.l])] w (GotB w (xs ++ encA x)) := by
  have HX := hidden h
  have hlen := hidden h.len
  have HA := hidden (AdIn.new w x 46)
  have HB := hidden ((Below.refl w.heap.size w).alloc (Nat.le_refl _) (.cells #[.int .i64 x.f, .int .u64 x.h, .int .u64 x.l] 46))
  have hh := fit.h
  have hl := fit.l
  clear h
  by_cases h4 : x.f = 4
  · have h4' : (x.f == 4) = true := by simpa using h4
    have HE := hidden (show encA x = be 4 x.l by unfold encA; rw [if_pos h4])
    clear h4
    go_enter Try.func45, Try.ntmps45
    go_wp2_with (first
      | (go_at_call 37; (with_reducible refine (rput_b p n c xs _ (HX.out.alloc _) (by omega) x.l hl 4 (by omega) (by omega) 4 rfl).mono ?_); rintro e w1 hgot; have HG := hidden (hgot.base HB.out); rw [← HE.out] at HG; obtain ⟨q, m, d, rfl, -⟩ := hgot)
      | fail)
    go_ret
    obtain ⟨q', m', d', he, k2⟩ := HG.out
    cases he
    exact ⟨_, _, _, rfl, k2⟩
  · have h4' : (x.f == 4) = false := by simpa using h4
    have HE := hidden (show encA x = be 8 x.h ++ be 8 x.l by unfold encA; rw [if_neg h4])
    clear h4
    go_enter Try.func45, Try.ntmps45
    go_upto_region 3 with fail
    generalize hw0 : w.alloc (.cells #[.int .i64 x.f, .int .u64 x.h, .int .u64 x.l] 46) = w0 at *
    have HX0 := hidden (HX.out.below (w' := w0.drew) (HB.out.trans (drew_below ⟨1, rfl⟩)))
    have HB0 := hidden (HB.out.trans (drew_below (B := w.heap.size) (w := w0) (w' := w0.drew) ⟨1, rfl⟩))
    have HA0 := hidden (HA.out.below (w' := w0.drew) (drew_below ⟨1, rfl⟩))
    obtain ⟨-, a1, a2, -⟩ := HA.out
    go_region_held3 (fun w' => w'.cell? ⟨w.heap.size, 1, none⟩ = some (.int .u64 x.h) ∧ w'.cell? ⟨w.heap.size, 2, none⟩ = some (.int .u64 x.l)) (first | exact ⟨HA0.out.c1, HA0.out.c2⟩ | exact ⟨(HA0.out.below hb1).c1, (HA0.out.below hb1).c2⟩ | exact ⟨((HA0.out.below hb1).below hb2).c1, ((HA0.out.below hb1).below hb2).c2⟩ | go_keep)
      (first
      | (go_at_call 37; (with_reducible refine (rput_b p n c xs _ HX0.out (by omega) x.h hh 8 (by omega) (by omega) 8 rfl).mono ?_); rintro e w1 ⟨q1, m1, d1, rfl, hm1, -, hy1, hb1⟩; obtain rfl : m1 = n + 8 := (by rw [← hm1, List.length_append, be_len, hlen.out]); have HY1 := hidden hy1; have HB1 := hidden (HB0.out.trans (hb1.mono HB0.out.size)))
      | (go_at_call 37; (with_reducible refine (rput_b q1 (n + 8) d1 _ _ HY1.out (by omega) x.l hl 8 (by omega) (by omega) 8 rfl).mono ?_); rintro e w2 hgot; have HG := hidden (hgot.base HB1.out); rw [List.append_assoc, ← HE.out] at HG; obtain ⟨q2, m2, d2, rfl, -, -, -, hb2⟩ := hgot)
      | fail)
    all_goals go_wp2_with fail
    all_goals go_ret
    all_goals
      obtain ⟨q', m', d', he, k2⟩ := HG.out
      cases he
      exact ⟨_, _, _, rfl, k2⟩
end Go.Proofs.Ytignenekomlleaa
