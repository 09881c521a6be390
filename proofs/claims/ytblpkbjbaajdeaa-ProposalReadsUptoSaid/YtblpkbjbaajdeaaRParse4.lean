/-
  What the document's own Parse of proposals returns, for any bytes of at most a mebibyte.
-/
import Derived.Test.YtblpkbjbaajdeaaPParse
import Derived.Test.YtblpkbjbaajdeaaRReadAll4
import Derived.Test.YtblpkbjbaajdeaaRCheckAll4
namespace Go.Proofs.Ytblpkbjbaajdeaa
open Go.RowKit
set_option linter.unusedVariables false

set_option maxHeartbeats 800000 in
theorem rparse4_any (p : Option Addr) (n c : Nat) (xs : List Int) (w : World) (h : Byt w p n c xs) (hn : n ≤ 1048576) (r : List Pr × Int) (hr : parseP xs = r) :
    Calls Try.prog 12 #[.slice p n c] w (ParsedP w r) := by
  unfold parseP at hr
  rw [h.len] at hr
  by_cases h0 : n = 0
  · rw [if_pos h0] at hr
    subst h0
    have HR := hidden hr
    clear h hr
    go_enter Try.func12, Try.ntmps12
    go_wp2
    go_ret2
    exact parsed_fail _ _ _ _ HR.out.symm (Below.refl _ _)
  rw [if_neg h0] at hr
  have h0' : ((n : Int) == 0) = false := by simp; omega
  obtain ⟨o, ho⟩ : ∃ o, prsV xs = o := ⟨_, rfl⟩
  have HC := hidden (rread_any p n c xs w h hn o ho)
  rw [ho] at hr
  have HO := hidden ho
  have HRG := hidden h.rng
  have HL := hidden h.len
  have HR := hidden hr
  clear h ho hr
  go_enter Try.func12, Try.ntmps12
  go_wp2_with fail
  go_at_call 24
  (with_reducible refine (HC.out).mono ?_)
  rintro e w1 ⟨hb1, hh⟩
  have HB1 := hidden hb1
  cases o with
  | none =>
    subst hh
    clear hb1
    go_wp2
    go_ret2
    exact parsed_fail _ _ _ _ HR.out.symm HB1.out
  | some l =>
    obtain ⟨v, ls, rfl, hl, hrow⟩ := hh
    obtain ⟨q, d, rfl⟩ := hrow.form rfl
    have hr := HR.out
    simp only at hr
    obtain ⟨E, hE⟩ : ∃ E, checkP l = E := ⟨_, rfl⟩
    rw [hE] at hr
    have hrd : RdG KPr DPr w1 q ls.length d ls := by
      obtain ⟨q', d', e, h⟩ := hrow.rd (D := DPr) rfl (fun _ h => h.rd)
      simp at e
      obtain ⟨rfl, rfl⟩ := e
      exact h
    have HC2 := hidden (rcheckAll_any _ _ _ ls w1 hrd E (by rw [hl]; exact hE))
    have HRW := hidden hrow
    have HR2 := hidden hr
    have HLS := hidden hl
    clear hrow hrd hb1 HC hr HR hE hl
    go_wp2_with fail
    go_at_call 18
    (with_reducible refine (HC2.out).mono ?_)
    rintro e w2 ⟨rfl, hb2⟩
    have HB2 := hidden hb2
    have HB3 := hidden (HB1.out.trans (hb2.mono HB1.out.size))
    clear hb2
    by_cases hz : E = 0
    · subst hz
      have hr := HR2.out
      rw [if_neg (by simp)] at hr
      have HR3 := hidden hr
      clear hr HR2
      go_wp2
      go_ret2
      rw [← HR3.out]
      exact ⟨_, ls, rfl, HLS.out, HRW.out.below HB2.out, HB3.out⟩
    · have hz' : (E != 0) = true := by simpa using hz
      have hr := HR2.out
      rw [if_pos hz] at hr
      have HR3 := hidden hr
      clear hr HR2
      go_wp2
      go_ret2
      exact parsed_fail _ _ _ _ HR3.out.symm HB3.out
end Go.Proofs.Ytblpkbjbaajdeaa
