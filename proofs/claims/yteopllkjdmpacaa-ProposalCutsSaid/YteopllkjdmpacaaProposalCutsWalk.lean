/-
  The law ProposalCuts, walked: it returns true for every input, and only adds memory of its own.
-/
import Derived.Test.YteopllkjdmpacaaPropLaws
namespace Go.Proofs.Yteopllkjdmpacaa
open Go.RowKit
set_option linter.unusedVariables false

set_option maxHeartbeats 1600000 in
set_option maxRecDepth 100000 in
theorem proposalCuts_walk (p : Option Addr) (n c : Nat) (xs : List Int) (cut : Int) (w : World) (h : Byt w p n c xs) (b0 : c ≤ 140737488351232) (g1 : 0 ≤ cut ∧ cut ≤ 255) :
    Calls Try.prog 5 #[.slice p n c, .int .u8 cut] w fun e w' => e = .returned (.bool true) ∧ Below w.heap.size w w' := by
  obtain ⟨i0, hi0, hz0, hz1, hz2⟩ := info_parts Try.infoByte
  have HX := hidden h
  have HA := hidden (awake04_any w)
  clear h
  go_enter Try.func5, Try.ntmps5
  go_wp2_with (go_at_call 7; (with_reducible refine (HA.out).mono ?_))
  rintro e w1 ⟨rfl, hb⟩
  have HB1 := hidden hb
  clear hb HA
  go_wp2_with (go_at_call 8; (refine (new_any w p n c xs w1 HX.out HB1.out 160 (by omega)).mono ?_))
  rintro e w2 ⟨rfl, hc, hb⟩
  have HC2 := hidden hc
  clear hc hb HB1 HX
  go_wp2_with (go_at_call 10; (refine (drawP_any w w2 _ HC2.out 4 (by omega) (by omega) 1 (by omega)).mono ?_))
  rintro e w3 ⟨v, ls, rfl, hl1, hl4, hdr, hrow, hcod, -⟩
  obtain ⟨pv, cv, rfl, hrd⟩ := hrow.rd (D := DPr) rfl (fun _ h => h.rd)
  have hck := hdr.check (Or.inl rfl) hl1 (by omega)
  have HB3 := hidden hcod.bel
  have HBD := hidden (pbuild_b pv ls.length cv ls w3 hrd _ 0 (hdr.built (Or.inl rfl) hl1 (by omega)))
  have hln : (encPs (ls.map PrP.pr)).length ≤ 4 * 304 := by
    have := encPs_le (ls.map PrP.pr) (checkP_ok hck).2.2
    rw [List.length_map] at this
    omega
  have hlp : (encPs (ls.map PrP.pr)).length ≠ 0 := by
    intro h
    have := (encPs_zero _).1 h
    rw [List.length_map] at this
    omega
  have HCUT := hidden (fun n => parse_cutP hck n)
  have HMORE := hidden (parse_moreP hck [cut] (by simp))
  generalize encPs (ls.map PrP.pr) = L at *
  clear hdr hrow hcod hrd HC2 hck
  go_wp2_with (go_at_call 17; (with_reducible refine (HBD.out).mono ?_))
  rintro e w4 ⟨pb, cb, rfl, hy, hb⟩
  have HB4 := hidden (HB3.out.trans (hb.mono HB3.out.size))
  have HY := hidden hy
  have hcap := hy.cap
  have hbig := hy.big
  obtain ⟨nb, hnb⟩ : ∃ nb, L.length = nb := ⟨_, rfl⟩
  rw [hnb] at HY hln hlp hcap HCUT ⊢
  have HNB := hidden hnb
  clear hy hb HB3 HBD hnb
  have hne : ((nb : Int) == 0) = false := by simp; omega
  obtain ⟨K, hK⟩ := Int.eq_ofNat_of_zero_le (Int.emod_nonneg cut (show (nb : Int) ≠ 0 by omega))
  have hKn : K < nb := by have := Int.emod_lt_of_pos cut (show (0 : Int) < nb by omega); omega
  have hKt : cut.tmod (nb : Int) = (K : Int) := by rw [Int.tmod_eq_emod_of_nonneg g1.1]; exact hK
  have hnz : ¬ (nb : Int) = 0 := by omega
  obtain ⟨E5, hE5⟩ : ∃ E5 : Int, (if K = 0 then 1 else 4) = E5 := ⟨_, rfl⟩
  have hcu := HCUT.out K hKn
  rw [hE5] at hcu
  have HP := hidden (pparse_any pb K cb (L.take K) w4 (HY.out.front K (by omega)) (by omega) _ hcu)
  have HE5 := hidden hE5
  clear hE5 hcu
  have hkc : K ≤ cb := by omega
  clear hK HCUT
  go_wp2_with (go_at_call 13; (with_reducible refine (HP.out).mono ?_))
  rintro e w5 ⟨v5, l5, rfl, -, -, hb5⟩
  have HB5 := hidden (HB4.out.trans (hb5.mono HB4.out.size))
  have HY5 := hidden (HY.out.below hb5)
  have hs5 := HB5.out.size
  clear hb5 HY HP
  simp only
  go_wp2_with (at_builtin; go_loud (refine wpList_append_byt _ rfl _ _ 22 rfl w.heap.size 5 i0 (.int .u8 0) Try.underlying22 hi0 hz0 hz1 hz2 rfl _ _ rfl (Own.nil _ _ _) _ _ _ _ _ rfl HY5.out rfl ?c1 ?c2 ?_))
  case c1 => simp; omega
  case c2 => omega
  intro v6 w6 ho6 hg6
  have HB6 := hidden (HB5.out.grown hg6 hs5 (by intro k hk; simp [Value.ownBlock] at hk))
  have HO6 := hidden ho6
  have hs6 := HB6.out.size
  clear hg6 ho6
  go_wp2_with (at_builtin; go_loud (refine wpList_append_byt _ rfl _ _ 22 rfl w.heap.size 5 i0 (.int .u8 0) Try.underlying22 hi0 hz0 hz1 hz2 rfl _ _ rfl (HO6.out.alloc _) _ _ _ _ [cut] rfl (one_byt g1 ?c0) rfl ?c1 ?c2 ?_))
  case c0 => rw [World.cell?_alloc_at _ _ _ _ rfl]; rfl
  case c1 => have := HNB.out; simp; omega
  case c2 => simp; omega
  intro v7 w7 ho7 hg7
  have HB7 := hidden ((HB6.out.alloc hs6 _).grown hg7 (by simp; omega) (fun k hk => (HO6.out.lt k hk).1))
  obtain ⟨p7, c7, rfl, hy7⟩ := ho7.bytN (us := L ++ [cut]) (by simp) (show (L ++ [cut]).length = nb + 1 by rw [List.length_append, HNB.out]; rfl) (rng_append HY5.out.rng (by intro z hz; rw [List.mem_singleton.1 hz]; exact g1))
  have HP7 := hidden (pparse_any p7 (nb + 1) c7 (L ++ [cut]) w7 hy7 (by omega) _ HMORE.out)
  clear ho7 hg7 hy7 HMORE
  go_wp2_with (go_at_call 13; (with_reducible refine (HP7.out).mono ?_))
  rintro e w8 ⟨v8, l8, rfl, -, -, hb8⟩
  have HB8 := hidden (HB7.out.trans (hb8.mono HB7.out.size))
  clear hb8 HP7
  simp only
  by_cases hk0 : K = 0
  · subst hk0
    have hE := HE5.out
    simp at hE
    subst hE
    go_wp2
    go_ret
    exact ⟨rfl, HB8.out⟩
  · have hE := HE5.out
    rw [if_neg hk0] at hE
    subst hE
    go_wp2
    go_ret
    exact ⟨rfl, HB8.out⟩
end Go.Proofs.Yteopllkjdmpacaa
