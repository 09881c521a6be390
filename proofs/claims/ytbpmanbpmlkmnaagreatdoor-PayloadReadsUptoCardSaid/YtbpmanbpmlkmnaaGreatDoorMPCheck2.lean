/-
  What package proposal's Check of one proposal, and of all, returns.
-/
import Derived.Test.YtbpmanbpmlkmnaaGreatDoorMZ8
namespace Go.Proofs.YtbpmanbpmlkmnaaGreatDoor
open Go.RowKit
set_option linter.unusedVariables false

set_option maxHeartbeats 1600000 in
set_option maxRecDepth 100000 in
theorem checkOne_any (x : PrP) (k : Int) (w : World) (h : OkD w x) :
    Calls Tryz.prog 100 #[.agg #[.int .i64 x.n, .int .i64 x.p, .slice x.sp x.sn x.sc, .slice x.tp x.tn x.tc], .int .i64 k] w (ErrNew w (errPr x.pr k)) := by
  obtain ⟨E, hE⟩ : ∃ E, errPr x.pr k = E := ⟨_, rfl⟩
  rw [hE]
  unfold errPr PrP.pr at hE
  simp only at hE
  have hs : x.s.length = x.sn := h.s.len
  have ht : x.ts.length = x.tn := h.ts.len
  rw [hs, ht] at hE
  have hsn := h.s.le
  have htn := h.ts.le
  have HT := hidden h.ts
  have HE := hidden hE
  clear h hE hs
  obtain ⟨n, p, sp, sn, sc, s, tp, tn, tc, ts⟩ := x
  simp only at *
  have HTL := hidden ht
  clear ht
  by_cases h1 : n ≠ k
  · have hE := HE.out
    rw [if_pos h1] at hE
    have h1' : (n != k) = true := by simpa using h1
    go_enter Tryz.func100, Tryz.ntmps100
    go_wp2
    go_ret
    subst hE
    exact ⟨rfl, (Below.refl _ w).alloc (Nat.le_refl _) _⟩
  obtain rfl : n = k := by omega
  by_cases h2 : p < 1 ∨ 3 < p
  · have p1 : (p != 1) = true := by simp; omega
    have p2 : (p != 2) = true := by simp; omega
    have p3 : (p != 3) = true := by simp; omega
    have hE := HE.out
    rw [if_neg h1, if_pos h2] at hE
    clear h2
    go_enter Tryz.func100, Tryz.ntmps100
    go_wp2
    go_ret
    subst hE
    exact ⟨rfl, (Below.refl _ w).alloc (Nat.le_refl _) _⟩
  have hE0 := HE.out
  rw [if_neg h1, if_neg h2] at hE0
  have HE0 := hidden hE0
  clear hE0 HE
  obtain ⟨b, hb⟩ : ∃ b : Bool, b = true ↔ (p = 1 ∧ (sn = 0 ∨ sn = 8)) ∨ (p ≠ 1 ∧ sn = 4) := ⟨decide ((p = 1 ∧ (sn = 0 ∨ sn = 8)) ∨ (p ≠ 1 ∧ sn = 4)), by rw [decide_eq_true_iff]⟩
  have HB := hidden hb
  have HS := hidden (fun w => isSpi_any p sn w b hb)
  have hp : p = 1 ∨ p = 2 ∨ p = 3 := by omega
  clear h2 hb
  cases b with
  | false =>
    have hE := HE0.out
    have hB := HB.out
    simp at hB
    rw [if_pos (by omega)] at hE
    have HE5 := hidden hE
    clear hE HE0 HB hB
    rcases hp with rfl | rfl | rfl
    all_goals
      go_enter Tryz.func100, Tryz.ntmps100
      go_wp2_with (go_at_call 113; (with_reducible refine (HS.out _).mono ?_); rintro e w1 ⟨rfl, rfl⟩)
      go_ret
      have hE := HE5.out
      subst hE
      exact ⟨rfl, (Below.refl _ w).alloc (Nat.le_refl _) _⟩
  | true =>
    have hE := HE0.out
    have hB := HB.out
    simp at hB
    rw [if_neg (by omega)] at hE
    have HE1 := hidden hE
    clear hE HE0 HB hB
    rcases hp with rfl | rfl | rfl
    all_goals
      by_cases h7 : tn = 0
      · have hE := HE1.out
        rw [if_pos h7] at hE
        subst h7
        go_enter Tryz.func100, Tryz.ntmps100
        go_wp2_with (go_at_call 113; (with_reducible refine (HS.out _).mono ?_); rintro e w1 ⟨rfl, rfl⟩)
        go_ret
        subst hE
        exact ⟨rfl, (Below.refl _ w).alloc (Nat.le_refl _) _⟩
      by_cases h8 : 24 < tn
      · have hE := HE1.out
        rw [if_neg h7, if_pos h8] at hE
        have h7' : ((tn : Int) == 0) = false := by simp; omega
        go_enter Tryz.func100, Tryz.ntmps100
        go_wp2_with (go_at_call 113; (with_reducible refine (HS.out _).mono ?_); rintro e w1 ⟨rfl, rfl⟩)
        go_ret
        subst hE
        exact ⟨rfl, (Below.refl _ w).alloc (Nat.le_refl _) _⟩
      have hE := HE1.out
      rw [if_neg h7, if_neg h8] at hE
      have HEL := hidden hE
      have h7' : ((tn : Int) == 0) = false := by simp; omega
      clear hE HE1
      go_enter Tryz.func100, Tryz.ntmps100
      go_wp2_with (go_at_call 113; (with_reducible refine (HS.out _).mono ?_); rintro e w1 ⟨rfl, rfl⟩)
      go_loopw [47] (fun i wr => ∃ j : Nat, j ≤ tn ∧ i = .int .i64 j ∧ errTrs (ts.take j) (ts.drop j) = E ∧ wr.cell? ⟨w.heap.size, 3, none⟩ = some (.slice tp tn tc) ∧ Below w.heap.size w wr) (fun i _ => tn - (intOf i).toNat)
      case atStart => exact ⟨0, by omega, rfl, by simpa using HEL.out, by go_simp, (Below.refl _ w).alloc (Nat.le_refl _) _⟩
      case round =>
        obtain ⟨j, hj, rfl, herr, hbox, hbel⟩ := hrel
        have HBL := hidden hbel
        have HBX := hidden hbox
        by_cases hlt : ¬ j < tn
        · obtain rfl : j = tn := by omega
          rw [List.drop_of_length_le (by rw [HTL.out]; exact Nat.le_refl _), errTrs] at herr
          have HER := hidden herr
          clear herr hbel
          go_wp2
          go_ret
          have hE := HER.out
          subst hE
          exact ⟨rfl, HBL.out⟩
        replace hlt : j < tn := by omega
        have hlt' : (j : Int) < tn := by omega
        have htj := HT.out.below hbel
        obtain ⟨g, rfl, hc, hint⟩ := htj.cell j (by rw [HTL.out]; exact hlt)
        have HTJ := hidden htj
        have hcap : j ≤ tc := by have := htj.cap; omega
        have hst := errTrs_step ts j (by rw [HTL.out]; exact hlt)
        rw [herr] at hst
        obtain ⟨y, hy⟩ : ∃ y, ts[j]'(by rw [HTL.out]; exact hlt) = y := ⟨_, rfl⟩
        rw [hy] at hst hc hint
        obtain ⟨t, i, kk⟩ := y
        have c0 := hc 0 _ rfl
        have c1 := hc 1 _ rfl
        have c2 := hc 2 _ rfl
        simp only [KTr, Nat.add_zero] at c0 c1 c2
        have HST := hidden hst
        clear hst herr hbel hc hy hint htj
        simp only at HST
        have HBA : Hid (Below w.heap.size w (wr.alloc (.cells #[.int .i64 t, .int .i64 i, .int .i64 kk] 107))) := hidden (HBL.out.alloc HBL.out.size _)
        by_cases hbad : t < 1 ∨ 5 < t ∨ i < 0 ∨ 65535 < i ∨ kk < 0 ∨ 65535 < kk
        · have hE := HST.out
          rw [if_pos hbad] at hE
          have HE9 := hidden hE
          have HC := hidden (fun w => inRange_no t i kk w hbad)
          clear hE HST hbad
          go_wp2_with (go_at_call 114; (with_reducible refine (HC.out _).mono ?_); rintro e w1 ⟨rfl, hb1⟩)
          go_ret
          have hE := HE9.out
          subst hE
          exact ⟨rfl, HBA.out.trans (hb1.mono HBA.out.size)⟩
        have hst := HST.out
        rw [if_neg hbad] at hst
        have HS2 := hidden hst
        have HC := hidden (fun w => inRange_yes t i kk w hbad)
        have hbx := HBX.out
        clear hst HST hbad
        go_wp2_with fail
        go_at_call 114
        (with_reducible refine (HC.out _).mono ?_)
        rintro e w1 ⟨rfl, hb1⟩
        have hB1 := HBA.out.trans (hb1.mono HBA.out.size)
        have hb0 := ((Below.refl wr.heap.size wr).alloc (Nat.le_refl _) (.cells #[.int .i64 t, .int .i64 i, .int .i64 kk] 107)).trans (hb1.mono (by simp))
        have d3 := cell_below hb0 _ _ HBX.out
        have e0 := cell_below hb1 ⟨wr.heap.size, 0, none⟩ (.int .i64 t) (World.cell?_alloc_at _ _ _ _ rfl)
        have e1 := cell_below hb1 ⟨wr.heap.size, 1, none⟩ (.int .i64 i) (World.cell?_alloc_at _ _ _ _ rfl)
        have e2 := cell_below hb1 ⟨wr.heap.size, 2, none⟩ (.int .i64 kk) (World.cell?_alloc_at _ _ _ _ rfl)
        obtain ⟨bc, hbc⟩ : ∃ b : Bool, b = true ↔ (⟨t, i, kk⟩ : Tr) ∈ ts.take j := ⟨decide ((⟨t, i, kk⟩ : Tr) ∈ ts.take j), by rw [decide_eq_true_iff]⟩
        have HBC := hidden hbc
        have htk := (HTJ.out.below hb0).front j (by omega)
        have HTK : Hid (RdG KTr DTr w1.drew (some ⟨g, 0, none⟩) j tc (ts.take j)) := hidden (htk.below (drew_below ⟨1, rfl⟩))
        have HCT := hidden (contains_any _ _ _ _ w1.drew HTK.out t i kk bc hbc)
        have HB1 := hidden hB1
        have HD3 := hidden d3
        clear hB1 hb0 hb1 hbc htk hbx c0 c1 c2
        go_wp2_with fail
        go_region_law ((go_simp; go_at_call 115; (with_reducible refine (HCT.out).mono ?_); rintro e wA ⟨rfl, hbA⟩))
        all_goals
          have HBW := hidden (HB1.out.trans ((drew_below (B := w.heap.size) (w := w1) (w' := w1.drew) ⟨1, rfl⟩).trans (hbA.mono (by have := HB1.out.size; simpa using this))))
          have HDW := hidden (cell_below (drew_below (B := w1.heap.size) (w := w1) (w' := w1.drew) ⟨1, rfl⟩) _ _ HD3.out)
          have HDX := hidden (cell_below hbA _ _ HDW.out)
          clear hbA
          cases bc with
          | true =>
            have hE := HS2.out
            rw [if_pos (HBC.out.1 rfl)] at hE
            have HE9 := hidden hE
            clear hE HS2
            go_wp2
            go_ret
            have hE := HE9.out
            subst hE
            exact ⟨rfl, HBW.out⟩
          | false =>
            have hE := HS2.out
            rw [if_neg (fun h => by have := HBC.out.2 h; cases this)] at hE
            have HE9 := hidden hE
            clear hE HS2
            go_wp2
            go_roundw
            case rel => exact ⟨j + 1, by omega, by go_num, HE9.out.symm, HDX.out, HBW.out⟩
            case measure => simp [intOf]; omega
end Go.Proofs.YtbpmanbpmlkmnaaGreatDoor
