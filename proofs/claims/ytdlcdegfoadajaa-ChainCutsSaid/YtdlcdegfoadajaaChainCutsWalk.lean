/-
  The law ChainCuts, walked: it returns true for every input, and only adds memory of its own.
-/
import Derived.Test.YtdlcdegfoadajaaChainLaws
namespace Go.Proofs.Ytdlcdegfoadajaa
open Go.RowKit
set_option linter.unusedVariables false

set_option maxHeartbeats 1600000 in
set_option maxRecDepth 100000 in
theorem chainCuts_walk (p : Option Addr) (n c : Nat) (xs : List Int) (cut : Int) (w : World) (h : Byt w p n c xs) (b0 : c ≤ 140737488351232) (g1 : 0 ≤ cut ∧ cut ≤ 255) :
    Calls Try.prog 6 #[.slice p n c, .int .u8 cut] w fun e w' => e = .returned (.bool true) ∧ Below w.heap.size w w' := by
  have HX := hidden h
  have HA := hidden (awake03_any w)
  clear h
  go_enter Try.func6, Try.ntmps6
  go_wp2_with (go_at_call 8; (with_reducible refine (HA.out).mono ?_))
  rintro e w1 ⟨rfl, hb⟩
  have HB1 := hidden hb
  clear hb HA
  go_wp2_with (go_at_call 9; (refine (new_any w p n c xs w1 HX.out HB1.out 120 (by omega)).mono ?_))
  rintro e w2 ⟨rfl, hc, hb⟩
  have HC2 := hidden hc
  clear hc hb HB1 HX
  go_wp2_with (go_at_call 10; (with_reducible refine (draw_any w w2 _ HC2.out).mono ?_))
  rintro e w3 ⟨v, l, last, rfl, hgood, hds⟩
  obtain ⟨pv, cv, rfl, hrd⟩ := hds.rws.rd rfl
  have HG := hidden hgood
  have HR3 := hidden hrd
  have HB3 := hidden hds.cod.bel
  have HBD := hidden (build_val pv l.length cv l last w3 hrd _ _ _ hgood.built)
  clear hgood hds hrd HC2
  go_wp2_with (go_at_call 19; (with_reducible refine (HBD.out).mono ?_))
  rintro e w4 ⟨pb, nb, cb, rfl, hy, ho, hb⟩
  have HB4 := hidden (HB3.out.trans (hb.mono HB3.out.size))
  have hlen := hy.len
  have hcap := hy.cap
  have hbig := hy.big
  unfold maxLen at hbig
  have hs60 := HG.out.short
  rw [hlen] at hs60
  have HY := hidden hy
  have HLEN := hidden hlen
  clear hy ho hb hlen HB3 HBD HR3
  rcases Nat.eq_zero_or_pos nb with h0 | h0
  · subst h0
    go_wp2
    go_ret
    exact ⟨rfl, HB4.out⟩
  have hne : ((nb : Int) == 0) = false := by simp; omega
  obtain ⟨K, hK⟩ := Int.eq_ofNat_of_zero_le (Int.emod_nonneg cut (show (nb : Int) ≠ 0 by omega))
  have hKn : K < nb := by have := Int.emod_lt_of_pos cut (show (0 : Int) < nb by omega); omega
  have hKt : cut.tmod (nb : Int) = (K : Int) := by rw [Int.tmod_eq_emod_of_nonneg g1.1]; exact hK
  have hcut := HG.out.cut K (by rw [HLEN.out]; exact hKn)
  generalize nextC 0 (l.map RawP.raw) = kk at *
  generalize encC last (l.map RawP.raw) = L at *
  have HP := hidden (fun r hr => parseC_any pb K cb (L.take K) w4 (HY.out.front K (by omega)) (by omega) kk r hr)
  clear hK
  rcases hcut with hcut | hcut
  all_goals
    have HPP := hidden (HP.out _ hcut)
    clear hcut HP
    go_wp2_with (go_at_call 14; (with_reducible refine (HPP.out).mono ?_))
    rintro e w5 ⟨v, l5, rfl, hr5, hm5, hl5, hb⟩
    have HB5 := hidden (HB4.out.trans (hb.mono HB4.out.size))
    clear hr5 hm5 hl5 hb HY HPP
    simp only [failC]
    go_wp2
    go_ret
    exact ⟨rfl, HB5.out⟩
end Go.Proofs.Ytdlcdegfoadajaa
