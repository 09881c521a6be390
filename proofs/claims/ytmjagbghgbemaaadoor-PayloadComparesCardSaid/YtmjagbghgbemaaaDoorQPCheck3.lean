/-
  What package proposal's Check returns.
-/
import Derived.Test.YtmjagbghgbemaaaDoorQPCheck2
namespace Go.Proofs.YtmjagbghgbemaaaDoor
open Go.RowKit
set_option linter.unusedVariables false

theorem errPrs_step (l : List Pr) (j : Nat) (hj : j < l.length) : errPrs ((j : Int) + 1) (l.drop j) =
    if errPr l[j] ((j : Int) + 1) ≠ 0 then errPr l[j] ((j : Int) + 1) else errPrs (((j + 1 : Nat) : Int) + 1) (l.drop (j + 1)) := by
  rw [List.drop_eq_getElem_cons hj, errPrs]
  rfl
theorem errPrs_stepP (ls : List PrP) (j : Nat) (hj : j < ls.length) (x : PrP) (hx : ls[j] = x) (E E1 : Int) (hE : errPrs ((j : Int) + 1) ((ls.map PrP.pr).drop j) = E) (hE1 : errPr x.pr ((j : Int) + 1) = E1) :
    E = if E1 ≠ 0 then E1 else errPrs (((j + 1 : Nat) : Int) + 1) ((ls.map PrP.pr).drop (j + 1)) := by
  subst hE hE1 hx
  rw [errPrs_step _ _ (by simpa using hj)]
  simp

set_option maxHeartbeats 800000 in
theorem checkAll_any (p : Option Addr) (n c : Nat) (ls : List PrP) (w : World) (h : RdG KPr DPr w p n c ls) (E : Int) (hE : checkP (ls.map PrP.pr) = E) :
    Calls Tryd.prog 75 #[.slice p n c] w (ErrNew w E) := by
  have hn := h.le
  have HT := hidden h
  have HTL := hidden h.len
  unfold checkP at hE
  rw [List.length_map, h.len] at hE
  clear h
  by_cases h0 : n = 0
  · rw [if_pos h0] at hE
    subst h0
    go_enter Tryd.func75, Tryd.ntmps75
    go_wp2
    go_ret
    subst hE
    exact ⟨rfl, Below.refl _ _⟩
  rw [if_neg h0] at hE
  have h0' : ((n : Int) == 0) = false := by simp; omega
  by_cases h8 : 8 < n
  · rw [if_pos h8] at hE
    go_enter Tryd.func75, Tryd.ntmps75
    go_wp2
    go_ret
    subst hE
    exact ⟨rfl, Below.refl _ _⟩
  rw [if_neg h8] at hE
  have HE := hidden hE
  clear hE
  go_enter Tryd.func75, Tryd.ntmps75
  go_wp2_with fail
  go_loopw [16] (fun i wr => ∃ j : Nat, j ≤ n ∧ i = .int .i64 j ∧ errPrs ((j : Int) + 1) ((ls.map PrP.pr).drop j) = E ∧ Below w.heap.size w wr) (fun i _ => n - (intOf i).toNat)
  case atStart => exact ⟨0, by omega, rfl, by simpa using HE.out, Below.refl _ _⟩
  case round =>
    obtain ⟨j, hj, rfl, herr, hbel⟩ := hrel
    have HBL := hidden hbel
    by_cases hlt : ¬ j < n
    · obtain rfl : j = n := by omega
      rw [List.drop_of_length_le (by rw [List.length_map, HTL.out]; exact Nat.le_refl _), errPrs] at herr
      have HER := hidden herr
      clear herr hbel
      go_wp2
      go_ret
      have hE := HER.out
      subst hE
      exact ⟨rfl, HBL.out⟩
    replace hlt : j < n := by omega
    have hlt' : (j : Int) < n := by omega
    have htj := HT.out.below hbel
    obtain ⟨g, rfl, hc, hok⟩ := htj.cell j (by rw [HTL.out]; exact hlt)
    obtain ⟨y, hy⟩ : ∃ y, ls[j]'(by rw [HTL.out]; exact hlt) = y := ⟨_, rfl⟩
    rw [hy] at hc hok
    obtain ⟨E1, hE1⟩ : ∃ E1, errPr y.pr ((j : Int) + 1) = E1 := ⟨_, rfl⟩
    have hst := errPrs_stepP ls j (by rw [HTL.out]; exact hlt) y hy E E1 herr hE1
    have c0 := hc 0 _ rfl
    have c1 := hc 1 _ rfl
    have c2 := hc 2 _ rfl
    have c3 := hc 3 _ rfl
    simp only [KPr, Nat.add_zero] at c0 c1 c2 c3
    have hal : Below wr.heap.size wr (wr.alloc (.cells #[.int .i64 y.n, .int .i64 y.p, .slice y.sp y.sn y.sc, .slice y.tp y.tn y.tc] 79)) := (Below.refl _ _).alloc (Nat.le_refl _) _
    have HC := hidden (checkOne_any y ((j : Int) + 1) _ (DPr.keep hok (cell_below hal)))
    rw [hE1] at HC
    have HB1 := hidden (HBL.out.trans (hal.mono HBL.out.size))
    have HST := hidden hst
    have hj8 : (j : Int) + 1 ≤ 9 := by omega
    clear hc hok hst hal hE1 hy htj herr hbel
    go_wp2_with fail
    go_at_call 88
    (with_reducible refine (HC.out).mono ?_)
    rintro e w1 ⟨rfl, hb1⟩
    have HB2 := hidden (HB1.out.trans (hb1.mono HB1.out.size))
    clear hb1 c0 c1 c2 c3
    by_cases hz : E1 = 0
    · subst hz
      have hst := HST.out
      rw [if_neg (by simp)] at hst
      have HS := hidden hst
      clear hst HST
      go_wp2
      go_roundw
      case rel => exact ⟨j + 1, by omega, by go_num, HS.out.symm, HB2.out⟩
      case measure => simp [intOf]; omega
    · have hz' : (E1 != 0) = true := by simpa using hz
      have hst := HST.out
      rw [if_pos hz] at hst
      have HS := hidden hst
      clear hst HST hz
      go_wp2
      go_ret
      have hE := HS.out
      subst hE
      exact ⟨rfl, HB2.out⟩
end Go.Proofs.YtmjagbghgbemaaaDoor
