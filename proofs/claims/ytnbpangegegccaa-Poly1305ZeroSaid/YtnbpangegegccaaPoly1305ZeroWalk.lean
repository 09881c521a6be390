/-
  The law Poly1305Zero, walked: it returns true for every input, and only adds memory of its own.
-/
import Derived.Test.YtnbpangegegccaaPoly11
import Derived.Test.YtnbpangegegccaaPolyLaw
import Derived.Test.YtnbpangegegccaaMkBytes
import Derived.Test.YtnbpangegegccaaCodes2
import Derived.Test.YtnbpangegegccaaRCompare
import Derived.Deep.Cut
import Derived.Deep.CutRange
namespace Go.Proofs.Ytnbpangegegccaa
open Go.RowKit
set_option linter.unusedVariables false

theorem below_of_none {w w' : World} (h : w.grownBy w' none) : Below w.heap.size w w' := ⟨h.os, h.tape, h.output, h.size, fun k hk => h.block k hk (by simp)⟩
theorem rng_zeros16 : ∀ x ∈ List.replicate 16 (0 : Int), 0 ≤ x ∧ x ≤ 255 := by decide
set_option maxHeartbeats 1600000 in
set_option maxRecDepth 100000 in
theorem poly1305Zero_walk (p0 : Option Addr) (n0 c0 : Nat) (xs0 : List Int) (p1 : Option Addr) (n1 c1 : Nat) (xs1 : List Int) (w : World) (h0 : Byt w p0 n0 c0 xs0) (r0 : c0 ≤ 140737488351232) (h1 : Byt w p1 n1 c1 xs1) (r1 : c1 ≤ 140737488351232) :
    Calls Try.prog 4 #[.slice p0 n0 c0, .slice p1 n1 c1] w fun e w' => e = .returned (.bool true) ∧ Below w.heap.size w w' := by
  have HA := hidden (awake11_any w)
  have H0 := hidden h0
  have H1 := hidden (fun W (hW : Below w.heap.size w W) => h1.below hW)
  have hc1 := h1.cap
  obtain ⟨i0, hi, hz0, hz1, hz2⟩ := info_parts Try.infoByte
  clear h0 h1
  go_enter Try.func4, Try.ntmps4
  go_wp2_with (first
    | (go_at_call 7; (with_reducible refine (HA.out).mono ?_); rintro e w1 ⟨rfl, hb⟩; have HB1 := hidden hb; clear hb)
    | (go_at_call 8; (refine (new_any w p0 n0 c0 xs0 w1 H0.out HB1.out 40 (by omega)).mono ?_); rintro e w2 ⟨rfl, hc, hb⟩; have HC2 := hidden hc; have HB2 := hidden (HB1.out.trans (hb.mono HB1.out.size)); clear hc hb)
    | (go_at_call 9; (refine (mbytes_any w w2 _ HC2.out 16 (by omega)).mono ?_); rintro e w3 ⟨q, d, ys, rfl, hbod, hc, hg⟩; have HY3 := hidden hbod; have HB3 := hidden (HB2.out.grown hg HB2.out.size (fun k e => by cases e; exact HC2.out.base)); clear hc hg hbod)
    | (at_make; refine wpList_make_byt _ rfl _ _ 22 rfl w3.heap.size 5 i0 Try.underlying22 hi hz0 hz1 hz2 _ _ _ _ 16 16 rfl rfl ?m1 ?m2 ?m3 ?m4 ?m5 ?_)
    | fail)
  case m1 => rfl
  case m2 => rfl
  case m3 => omega
  case m4 => omega
  case m5 => simp
  intro w4 hown hg
  have HB34 := hidden (below_of_none hg)
  have HY4 := hidden (HY3.out.byt.below HB34.out)
  have HB4 := hidden (HB3.out.trans (HB34.out.mono HB3.out.size))
  have HO4 := hidden (show Own w4 w3.heap.size 5 _ (List.replicate 16 0) from hown)
  clear hown hg HC2
  go_wp2_with (first
    | (at_builtin; refine wpList_append_byt _ rfl _ _ 22 rfl w3.heap.size 5 i0 (.int .u8 0) Try.underlying22 hi hz0 hz1 hz2 rfl _ _ rfl HO4.out _ _ _ _ _ rfl HY4.out rfl ?c2 ?c3 ?_)
    | fail)
  case c2 => simp
  case c3 => exact HB34.out.size
  intro u w5 hown hg
  have HB35 := hidden (HB34.out.grown hg HB34.out.size (fun k hk => (HO4.out.lt k hk).1))
  have HB5 := hidden (HB3.out.trans (HB35.out.mono HB3.out.size))
  have hyl := HY4.out.len
  have hyr := HY4.out.rng
  have HY5 := hidden (HY3.out.byt.below HB35.out)
  obtain ⟨x, f, rfl, hx⟩ := hown.bytN (N := 32) rfl (by simp [hyl]) (rng_append (rng_zeros16) hyr)
  have hps := psum_yes x p1 f n1 c1 (List.replicate 16 0 ++ ys) xs1 w5 hx (H1.out w5 HB5.out) (by omega)
  rw [tag_zero ys xs1 hyl hyr] at hps
  have HPS := hidden hps
  have HYR := hidden hyr
  have HYL := Is.mk hyl
  clear hown hg hx hyr hyl hps HY4 HO4 HY3
  go_wp2_with (first
    | (go_at_call 10; (with_reducible refine (HPS.out).mono ?_); rintro e w6 ⟨v6, rfl, ho, hb⟩; have HB6 := hidden (HB5.out.trans (hb.mono HB5.out.size)); have HY6 := hidden (HY5.out.below hb); obtain ⟨q6, d6, rfl, hbyt⟩ := ho.bytN (N := 16) rfl HYL.eq HYR.out; have HT6 := hidden hbyt; clear ho hb hbyt)
    | (go_at_call 12; (with_reducible refine (requal_any q6 q 16 d6 16 d ys ys w6 HT6.out HY6.out).mono ?_); rintro e w7 ⟨rfl, r7, rfl⟩)
    | fail)
  go_ret
  exact ⟨rfl, HB6.out.trans (below_drewN _)⟩
end Go.Proofs.Ytnbpangegegccaa
