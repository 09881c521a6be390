/-
  What the document's own Check of one proposal returns.
  What package proposal's Check returns.
  What package proposal's Check of one proposal, and of all, returns.
  What package proposal's Check returns.
  What package proposal's Build returns.
-/
import Derived.Test.YtpocehpejbnemaaDoorRZ0
import Derived.Test.YtpocehpejbnemaaDoorRZ13
import Derived.Deep.RegionLaw
namespace Go.Proofs.YtpocehpejbnemaaDoor
open Go.RowKit
set_option linter.unusedVariables false

theorem errTrs_step (ts : List Tr) (j : Nat) (hj : j < ts.length) : errTrs (ts.take j) (ts.drop j) =
    if ts[j].t < 1 ∨ 5 < ts[j].t ∨ ts[j].i < 0 ∨ 65535 < ts[j].i ∨ ts[j].k < 0 ∨ 65535 < ts[j].k then 5 else if ts[j] ∈ ts.take j then 9 else errTrs (ts.take (j + 1)) (ts.drop (j + 1)) := by
  rw [List.drop_eq_getElem_cons hj, errTrs, List.take_add_one, List.getElem?_eq_getElem hj]
  rfl
theorem twice_at (ts : List Tr) (j i : Nat) (hi : i < j) (hj : j < ts.length) (h : ts[i]'(by omega) = ts[j]) : ts[j] ∈ ts.take j := by
  rw [← h]
  exact List.mem_take_iff_getElem.2 ⟨i, by omega, rfl⟩
theorem once_at (ts : List Tr) (j : Nat) (hj : j < ts.length) (h : ∀ i, (hi : i < j) → ts[i]'(by omega) ≠ ts[j]) : ts[j] ∉ ts.take j := by
  intro hm
  obtain ⟨i, hi, he⟩ := List.mem_take_iff_getElem.1 hm
  exact h i (by omega) he

/-- The result of a function that returns an error. -/
def ErrNew (w : World) (E : Int) (e : Ending) (w' : World) : Prop := e = .returned (.int .i64 E) ∧ Below w.heap.size w w'

theorem eql_tr (w : World) (a b c a' b' c' : Int) : (binOp .eql 113 (.agg #[.int .i64 a, .int .i64 b, .int .i64 c]) (.agg #[.int .i64 a', .int .i64 b', .int .i64 c'])).run Tryd.prog w = .ok (.bool (a == a' && b == b' && c == c')) w := by
  go_simp
  by_cases h1 : a = a' <;> by_cases h2 : b = b' <;> by_cases h3 : c = c' <;> simp [h1, h2, h3]

end Go.Proofs.YtpocehpejbnemaaDoor

namespace Go.Proofs.YtpocehpejbnemaaDoor
open Go.RowKit
set_option linter.unusedVariables false

set_option maxHeartbeats 400000 in
theorem isSpi_any (p : Int) (n : Nat) (w : World) (b : Bool) (hb : b = true ↔ (p = 1 ∧ (n = 0 ∨ n = 8)) ∨ (p ≠ 1 ∧ n = 4)) :
    Calls Tryd.prog 124 #[.int .i64 p, .int .i64 n] w fun e w' => e = .returned (.bool b) ∧ w = w' := by
  by_cases h1 : p = 1
  · subst h1
    by_cases h0 : n = 0
    · subst h0
      obtain rfl : b = true := by simpa using hb
      clear hb
      go_enter Tryd.func124, Tryd.ntmps124
      go_wp2
      go_ret
      exact ⟨rfl, rfl⟩
    · have hb' : b = ((n : Int) == 8) := by
        rw [Bool.eq_iff_iff, hb]
        simp [h0]
        omega
      have h0' : ((n : Int) == 0) = false := by simpa using h0
      clear hb
      go_enter Tryd.func124, Tryd.ntmps124
      go_wp2
      go_ret
      exact ⟨by rw [hb']; rfl, rfl⟩
  · have h1' : (p == 1) = false := by simpa using h1
    have hb' : b = ((n : Int) == 4) := by
      rw [Bool.eq_iff_iff, hb]
      simp [h1]
      omega
    clear hb
    go_enter Tryd.func124, Tryd.ntmps124
    go_wp2
    go_ret
    exact ⟨by rw [hb']; rfl, rfl⟩

set_option maxHeartbeats 400000 in
theorem inRange_no (t i k : Int) (w : World) (h : t < 1 ∨ 5 < t ∨ i < 0 ∨ 65535 < i ∨ k < 0 ∨ 65535 < k) :
    Calls Tryd.prog 125 #[.agg #[.int .i64 t, .int .i64 i, .int .i64 k]] w fun e w' => e = .returned (.bool false) ∧ Below w.heap.size w w' := by
  by_cases q1 : t < 1
  · have r1 : ¬ 1 ≤ t := by omega
    clear h
    go_enter Tryd.func125, Tryd.ntmps125
    go_wp2
    go_ret
    exact ⟨rfl, (Below.refl _ w).alloc (Nat.le_refl _) _⟩
  have r1 : 1 ≤ t := by omega
  by_cases q2 : 5 < t
  · have r2 : ¬ t ≤ 5 := by omega
    clear h
    go_enter Tryd.func125, Tryd.ntmps125
    go_wp2
    go_ret
    exact ⟨rfl, (Below.refl _ w).alloc (Nat.le_refl _) _⟩
  have r2 : t ≤ 5 := by omega
  by_cases q3 : i < 0
  · have r3 : ¬ 0 ≤ i := by omega
    clear h
    go_enter Tryd.func125, Tryd.ntmps125
    go_wp2
    go_ret
    exact ⟨rfl, (Below.refl _ w).alloc (Nat.le_refl _) _⟩
  have r3 : 0 ≤ i := by omega
  by_cases q4 : 65535 < i
  · have r4 : ¬ i ≤ 65535 := by omega
    clear h
    go_enter Tryd.func125, Tryd.ntmps125
    go_wp2
    go_ret
    exact ⟨rfl, (Below.refl _ w).alloc (Nat.le_refl _) _⟩
  have r4 : i ≤ 65535 := by omega
  by_cases q5 : k < 0
  · have r5 : ¬ 0 ≤ k := by omega
    clear h
    go_enter Tryd.func125, Tryd.ntmps125
    go_wp2
    go_ret
    exact ⟨rfl, (Below.refl _ w).alloc (Nat.le_refl _) _⟩
  have r5 : 0 ≤ k := by omega
  have r6 : ¬ k ≤ 65535 := by omega
  clear h
  go_enter Tryd.func125, Tryd.ntmps125
  go_wp2
  go_ret
  exact ⟨by simp <;> omega, (Below.refl _ w).alloc (Nat.le_refl _) _⟩
set_option maxHeartbeats 400000 in
theorem inRange_yes (t i k : Int) (w : World) (h : ¬ (t < 1 ∨ 5 < t ∨ i < 0 ∨ 65535 < i ∨ k < 0 ∨ 65535 < k)) :
    Calls Tryd.prog 125 #[.agg #[.int .i64 t, .int .i64 i, .int .i64 k]] w fun e w' => e = .returned (.bool true) ∧ Below w.heap.size w w' := by
  have r1 : 1 ≤ t := by omega
  have r2 : t ≤ 5 := by omega
  have r3 : 0 ≤ i := by omega
  have r4 : i ≤ 65535 := by omega
  have r5 : 0 ≤ k := by omega
  have r6 : k ≤ 65535 := by omega
  clear h
  go_enter Tryd.func125, Tryd.ntmps125
  go_wp2
  go_ret
  exact ⟨by simp <;> omega, (Below.refl _ w).alloc (Nat.le_refl _) _⟩

set_option maxHeartbeats 800000 in
theorem index_any (p : Option Addr) (n c : Nat) (l : List Tr) (w : World) (h : RdG KTr DTr w p n c l) (t i k : Int) :
    Calls Tryd.prog 135 #[.slice p n c, .agg #[.int .i64 t, .int .i64 i, .int .i64 k]] w fun e w' => ∃ r : Int, e = .returned (.int .i64 r) ∧ (0 ≤ r ↔ (⟨t, i, k⟩ : Tr) ∈ l) ∧ Below w.heap.size w w' := by
  have hn := h.le
  have HT := hidden h
  have HTL := hidden h.len
  clear h
  go_enter Tryd.func135, Tryd.ntmps135
  go_wp2_with fail
  go_loopw [8] (fun m wq => ∃ q : Nat, q ≤ n ∧ m = .int .i64 q ∧ (∀ r, r < q → l[r]? ≠ some ⟨t, i, k⟩) ∧ wq.cell? ⟨w.heap.size, 0, none⟩ = some (.int .i64 t) ∧ wq.cell? ⟨w.heap.size, 1, none⟩ = some (.int .i64 i) ∧ wq.cell? ⟨w.heap.size, 2, none⟩ = some (.int .i64 k) ∧ Below w.heap.size w wq) (fun m _ => n - (intOf m).toNat)
  case atStart => exact ⟨0, by omega, rfl, by omega, by go_simp, by go_simp, by go_simp, (Below.refl _ w).alloc (Nat.le_refl _) _⟩
  case round =>
    obtain ⟨q, hq, rfl, hno, y0, y1, y2, hbq⟩ := hrel
    have HNO := hidden hno
    have HBQ := hidden hbq
    have HY0 := hidden y0
    have HY1 := hidden y1
    have HY2 := hidden y2
    clear hno hbq
    by_cases hqj : ¬ q < n
    · obtain rfl : q = n := by omega
      have hnot : (⟨t, i, k⟩ : Tr) ∉ l := by
        intro hm
        obtain ⟨r, hr, he⟩ := List.mem_iff_getElem.1 hm
        exact HNO.out r (by have := HTL.out; omega) (by rw [List.getElem?_eq_getElem hr, he])
      have HN := hidden hnot
      clear hnot y0 y1 y2
      go_wp2
      go_ret
      exact ⟨-1, rfl, ⟨fun h => by omega, fun h => absurd h HN.out⟩, HBQ.out⟩
    replace hqj : q < n := by omega
    have hqj' : (q : Int) < n := by omega
    obtain ⟨g, rfl, hc, hint⟩ := (HT.out.below HBQ.out).cell q (by rw [HTL.out]; omega)
    obtain ⟨z, hz⟩ : ∃ z, l[q]'(by rw [HTL.out]; omega) = z := ⟨_, rfl⟩
    rw [hz] at hc
    have HZ := hidden hz
    obtain ⟨zt, zi, zk⟩ := z
    have z0 := hc 0 _ rfl
    have z1 := hc 1 _ rfl
    have z2 := hc 2 _ rfl
    simp only [KTr, Nat.add_zero] at z0 z1 z2
    clear hc hint hz
    have hqe := fun w => eql_tr w t i k zt zi zk
    by_cases heq : t = zt ∧ i = zi ∧ k = zk
    · obtain ⟨rfl, rfl, rfl⟩ := heq
      have hin : (⟨t, i, k⟩ : Tr) ∈ l := List.mem_iff_getElem.2 ⟨q, by have := HTL.out; omega, HZ.out⟩
      have HIN := hidden hin
      have hqb : (t == t && i == i && k == k) = true := by simp
      simp only [hqb] at hqe
      clear hin hqb
      go_wp2_with fail
      go_region
      go_wp2
      go_ret
      exact ⟨q, rfl, ⟨fun _ => HIN.out, fun _ => by omega⟩, HBQ.out.trans (drew_below ⟨1, rfl⟩)⟩
    · have hqb : (t == zt && i == zi && k == zk) = false := by
        rw [Bool.eq_false_iff]
        intro hh
        simp at hh
        exact heq ⟨hh.1.1, hh.1.2, hh.2⟩
      simp only [hqb] at hqe
      clear hqb
      go_wp2_with fail
      go_region
      go_wp2
      go_roundw
      case rel =>
        refine ⟨q + 1, by omega, by go_num, fun r hr => ?_, HY0.out, HY1.out, HY2.out, HBQ.out.trans (drew_below ⟨1, rfl⟩)⟩
        rcases Nat.lt_succ_iff_lt_or_eq.1 hr with hrq | hrq
        · exact HNO.out r hrq
        · subst hrq
          rw [List.getElem?_eq_getElem (by have := HTL.out; omega), HZ.out]
          intro hh
          simp at hh
          exact heq ⟨hh.1.symm, hh.2.1.symm, hh.2.2.symm⟩
      case measure => simp [intOf]; omega

set_option maxHeartbeats 400000 in
theorem contains_any (p : Option Addr) (n c : Nat) (l : List Tr) (w : World) (h : RdG KTr DTr w p n c l) (t i k : Int) (b : Bool) (hb : b = true ↔ (⟨t, i, k⟩ : Tr) ∈ l) :
    Calls Tryd.prog 126 #[.slice p n c, .agg #[.int .i64 t, .int .i64 i, .int .i64 k]] w fun e w' => e = .returned (.bool b) ∧ Below w.heap.size w w' := by
  have HT := hidden h
  have HB := hidden hb
  clear h hb
  go_enter Tryd.func126, Tryd.ntmps126
  go_wp2_with (go_at_call 135; (with_reducible refine (index_any p n c l _ (HT.out.below ((Below.refl _ w).alloc (Nat.le_refl _) _)) t i k).mono ?_); rintro e w1 ⟨r, rfl, hr, hbel⟩)
  go_ret
  refine ⟨?_, ((Below.refl _ w).alloc (Nat.le_refl _) _).trans (hbel.mono (by simp))⟩
  have e : decide ((⟨t, i, k⟩ : Tr) ∈ l) = b := by
    rw [Bool.eq_iff_iff, HB.out]
    simp
  rw [← e]
  rfl
end Go.Proofs.YtpocehpejbnemaaDoor

namespace Go.Proofs.YtpocehpejbnemaaDoor
open Go.RowKit
set_option linter.unusedVariables false

set_option maxHeartbeats 1600000 in
set_option maxRecDepth 100000 in
theorem checkOne_any (x : PrP) (k : Int) (w : World) (h : OkD w x) :
    Calls Tryd.prog 111 #[.agg #[.int .i64 x.n, .int .i64 x.p, .slice x.sp x.sn x.sc, .slice x.tp x.tn x.tc], .int .i64 k] w (ErrNew w (errPr x.pr k)) := by
  obtain ⟨E, hE⟩ : ∃ E, errPr x.pr k = E := ⟨_, rfl⟩
  rw [hE]
  unfold errPr PrP.pr at hE
  simp only at hE
  have hs : x.s.length = x.sn := h.s.len
  have ht : x.ts.length = x.tn := h.ts.len
  rw [hs, ht] at hE
  have hsn := h.s.le
  have htn := h.ts.le
  have HT := hidden h.ts
  have HE := hidden hE
  clear h hE hs
  obtain ⟨n, p, sp, sn, sc, s, tp, tn, tc, ts⟩ := x
  simp only at *
  have HTL := hidden ht
  clear ht
  by_cases h1 : n ≠ k
  · have hE := HE.out
    rw [if_pos h1] at hE
    have h1' : (n != k) = true := by simpa using h1
    go_enter Tryd.func111, Tryd.ntmps111
    go_wp2
    go_ret
    subst hE
    exact ⟨rfl, (Below.refl _ w).alloc (Nat.le_refl _) _⟩
  obtain rfl : n = k := by omega
  by_cases h2 : p < 1 ∨ 3 < p
  · have p1 : (p != 1) = true := by simp; omega
    have p2 : (p != 2) = true := by simp; omega
    have p3 : (p != 3) = true := by simp; omega
    have hE := HE.out
    rw [if_neg h1, if_pos h2] at hE
    clear h2
    go_enter Tryd.func111, Tryd.ntmps111
    go_wp2
    go_ret
    subst hE
    exact ⟨rfl, (Below.refl _ w).alloc (Nat.le_refl _) _⟩
  have hE0 := HE.out
  rw [if_neg h1, if_neg h2] at hE0
  have HE0 := hidden hE0
  clear hE0 HE
  obtain ⟨b, hb⟩ : ∃ b : Bool, b = true ↔ (p = 1 ∧ (sn = 0 ∨ sn = 8)) ∨ (p ≠ 1 ∧ sn = 4) := ⟨decide ((p = 1 ∧ (sn = 0 ∨ sn = 8)) ∨ (p ≠ 1 ∧ sn = 4)), by rw [decide_eq_true_iff]⟩
  have HB := hidden hb
  have HS := hidden (fun w => isSpi_any p sn w b hb)
  have hp : p = 1 ∨ p = 2 ∨ p = 3 := by omega
  clear h2 hb
  cases b with
  | false =>
    have hE := HE0.out
    have hB := HB.out
    simp at hB
    rw [if_pos (by omega)] at hE
    have HE5 := hidden hE
    clear hE HE0 HB hB
    rcases hp with rfl | rfl | rfl
    all_goals
      go_enter Tryd.func111, Tryd.ntmps111
      go_wp2_with (go_at_call 124; (with_reducible refine (HS.out _).mono ?_); rintro e w1 ⟨rfl, rfl⟩)
      go_ret
      have hE := HE5.out
      subst hE
      exact ⟨rfl, (Below.refl _ w).alloc (Nat.le_refl _) _⟩
  | true =>
    have hE := HE0.out
    have hB := HB.out
    simp at hB
    rw [if_neg (by omega)] at hE
    have HE1 := hidden hE
    clear hE HE0 HB hB
    rcases hp with rfl | rfl | rfl
    all_goals
      by_cases h7 : tn = 0
      · have hE := HE1.out
        rw [if_pos h7] at hE
        subst h7
        go_enter Tryd.func111, Tryd.ntmps111
        go_wp2_with (go_at_call 124; (with_reducible refine (HS.out _).mono ?_); rintro e w1 ⟨rfl, rfl⟩)
        go_ret
        subst hE
        exact ⟨rfl, (Below.refl _ w).alloc (Nat.le_refl _) _⟩
      by_cases h8 : 24 < tn
      · have hE := HE1.out
        rw [if_neg h7, if_pos h8] at hE
        have h7' : ((tn : Int) == 0) = false := by simp; omega
        go_enter Tryd.func111, Tryd.ntmps111
        go_wp2_with (go_at_call 124; (with_reducible refine (HS.out _).mono ?_); rintro e w1 ⟨rfl, rfl⟩)
        go_ret
        subst hE
        exact ⟨rfl, (Below.refl _ w).alloc (Nat.le_refl _) _⟩
      have hE := HE1.out
      rw [if_neg h7, if_neg h8] at hE
      have HEL := hidden hE
      have h7' : ((tn : Int) == 0) = false := by simp; omega
      clear hE HE1
      go_enter Tryd.func111, Tryd.ntmps111
      go_wp2_with (go_at_call 124; (with_reducible refine (HS.out _).mono ?_); rintro e w1 ⟨rfl, rfl⟩)
      go_loopw [47] (fun i wr => ∃ j : Nat, j ≤ tn ∧ i = .int .i64 j ∧ errTrs (ts.take j) (ts.drop j) = E ∧ wr.cell? ⟨w.heap.size, 3, none⟩ = some (.slice tp tn tc) ∧ Below w.heap.size w wr) (fun i _ => tn - (intOf i).toNat)
      case atStart => exact ⟨0, by omega, rfl, by simpa using HEL.out, by go_simp, (Below.refl _ w).alloc (Nat.le_refl _) _⟩
      case round =>
        obtain ⟨j, hj, rfl, herr, hbox, hbel⟩ := hrel
        have HBL := hidden hbel
        have HBX := hidden hbox
        by_cases hlt : ¬ j < tn
        · obtain rfl : j = tn := by omega
          rw [List.drop_of_length_le (by rw [HTL.out]; exact Nat.le_refl _), errTrs] at herr
          have HER := hidden herr
          clear herr hbel
          go_wp2
          go_ret
          have hE := HER.out
          subst hE
          exact ⟨rfl, HBL.out⟩
        replace hlt : j < tn := by omega
        have hlt' : (j : Int) < tn := by omega
        have htj := HT.out.below hbel
        obtain ⟨g, rfl, hc, hint⟩ := htj.cell j (by rw [HTL.out]; exact hlt)
        have HTJ := hidden htj
        have hcap : j ≤ tc := by have := htj.cap; omega
        have hst := errTrs_step ts j (by rw [HTL.out]; exact hlt)
        rw [herr] at hst
        obtain ⟨y, hy⟩ : ∃ y, ts[j]'(by rw [HTL.out]; exact hlt) = y := ⟨_, rfl⟩
        rw [hy] at hst hc hint
        obtain ⟨t, i, kk⟩ := y
        have c0 := hc 0 _ rfl
        have c1 := hc 1 _ rfl
        have c2 := hc 2 _ rfl
        simp only [KTr, Nat.add_zero] at c0 c1 c2
        have HST := hidden hst
        clear hst herr hbel hc hy hint htj
        simp only at HST
        have HBA : Hid (Below w.heap.size w (wr.alloc (.cells #[.int .i64 t, .int .i64 i, .int .i64 kk] 113))) := hidden (HBL.out.alloc HBL.out.size _)
        by_cases hbad : t < 1 ∨ 5 < t ∨ i < 0 ∨ 65535 < i ∨ kk < 0 ∨ 65535 < kk
        · have hE := HST.out
          rw [if_pos hbad] at hE
          have HE9 := hidden hE
          have HC := hidden (fun w => inRange_no t i kk w hbad)
          clear hE HST hbad
          go_wp2_with (go_at_call 125; (with_reducible refine (HC.out _).mono ?_); rintro e w1 ⟨rfl, hb1⟩)
          go_ret
          have hE := HE9.out
          subst hE
          exact ⟨rfl, HBA.out.trans (hb1.mono HBA.out.size)⟩
        have hst := HST.out
        rw [if_neg hbad] at hst
        have HS2 := hidden hst
        have HC := hidden (fun w => inRange_yes t i kk w hbad)
        have hbx := HBX.out
        clear hst HST hbad
        go_wp2_with fail
        go_at_call 125
        (with_reducible refine (HC.out _).mono ?_)
        rintro e w1 ⟨rfl, hb1⟩
        have hB1 := HBA.out.trans (hb1.mono HBA.out.size)
        have hb0 := ((Below.refl wr.heap.size wr).alloc (Nat.le_refl _) (.cells #[.int .i64 t, .int .i64 i, .int .i64 kk] 113)).trans (hb1.mono (by simp))
        have d3 := cell_below hb0 _ _ HBX.out
        have e0 := cell_below hb1 ⟨wr.heap.size, 0, none⟩ (.int .i64 t) (World.cell?_alloc_at _ _ _ _ rfl)
        have e1 := cell_below hb1 ⟨wr.heap.size, 1, none⟩ (.int .i64 i) (World.cell?_alloc_at _ _ _ _ rfl)
        have e2 := cell_below hb1 ⟨wr.heap.size, 2, none⟩ (.int .i64 kk) (World.cell?_alloc_at _ _ _ _ rfl)
        obtain ⟨bc, hbc⟩ : ∃ b : Bool, b = true ↔ (⟨t, i, kk⟩ : Tr) ∈ ts.take j := ⟨decide ((⟨t, i, kk⟩ : Tr) ∈ ts.take j), by rw [decide_eq_true_iff]⟩
        have HBC := hidden hbc
        have htk := (HTJ.out.below hb0).front j (by omega)
        have HTK : Hid (RdG KTr DTr w1.drew (some ⟨g, 0, none⟩) j tc (ts.take j)) := hidden (htk.below (drew_below ⟨1, rfl⟩))
        have HCT := hidden (contains_any _ _ _ _ w1.drew HTK.out t i kk bc hbc)
        have HB1 := hidden hB1
        have HD3 := hidden d3
        clear hB1 hb0 hb1 hbc htk hbx c0 c1 c2
        go_wp2_with fail
        go_region_law ((go_simp; go_at_call 126; (with_reducible refine (HCT.out).mono ?_); rintro e wA ⟨rfl, hbA⟩))
        all_goals
          have HBW := hidden (HB1.out.trans ((drew_below (B := w.heap.size) (w := w1) (w' := w1.drew) ⟨1, rfl⟩).trans (hbA.mono (by have := HB1.out.size; simpa using this))))
          have HDW := hidden (cell_below (drew_below (B := w1.heap.size) (w := w1) (w' := w1.drew) ⟨1, rfl⟩) _ _ HD3.out)
          have HDX := hidden (cell_below hbA _ _ HDW.out)
          clear hbA
          cases bc with
          | true =>
            have hE := HS2.out
            rw [if_pos (HBC.out.1 rfl)] at hE
            have HE9 := hidden hE
            clear hE HS2
            go_wp2
            go_ret
            have hE := HE9.out
            subst hE
            exact ⟨rfl, HBW.out⟩
          | false =>
            have hE := HS2.out
            rw [if_neg (fun h => by have := HBC.out.2 h; cases this)] at hE
            have HE9 := hidden hE
            clear hE HS2
            go_wp2
            go_roundw
            case rel => exact ⟨j + 1, by omega, by go_num, HE9.out.symm, HDX.out, HBW.out⟩
            case measure => simp [intOf]; omega
end Go.Proofs.YtpocehpejbnemaaDoor

namespace Go.Proofs.YtpocehpejbnemaaDoor
open Go.RowKit
set_option linter.unusedVariables false

theorem errPrs_step (l : List Pr) (j : Nat) (hj : j < l.length) : errPrs ((j : Int) + 1) (l.drop j) =
    if errPr l[j] ((j : Int) + 1) ≠ 0 then errPr l[j] ((j : Int) + 1) else errPrs (((j + 1 : Nat) : Int) + 1) (l.drop (j + 1)) := by
  rw [List.drop_eq_getElem_cons hj, errPrs]
  rfl
theorem errPrs_stepP (ls : List PrP) (j : Nat) (hj : j < ls.length) (x : PrP) (hx : ls[j] = x) (E E1 : Int) (hE : errPrs ((j : Int) + 1) ((ls.map PrP.pr).drop j) = E) (hE1 : errPr x.pr ((j : Int) + 1) = E1) :
    E = if E1 ≠ 0 then E1 else errPrs (((j + 1 : Nat) : Int) + 1) ((ls.map PrP.pr).drop (j + 1)) := by
  subst hE hE1 hx
  rw [errPrs_step _ _ (by simpa using hj)]
  simp

set_option maxHeartbeats 800000 in
theorem checkAll_any (p : Option Addr) (n c : Nat) (ls : List PrP) (w : World) (h : RdG KPr DPr w p n c ls) (E : Int) (hE : checkP (ls.map PrP.pr) = E) :
    Calls Tryd.prog 89 #[.slice p n c] w (ErrNew w E) := by
  have hn := h.le
  have HT := hidden h
  have HTL := hidden h.len
  unfold checkP at hE
  rw [List.length_map, h.len] at hE
  clear h
  by_cases h0 : n = 0
  · rw [if_pos h0] at hE
    subst h0
    go_enter Tryd.func89, Tryd.ntmps89
    go_wp2
    go_ret
    subst hE
    exact ⟨rfl, Below.refl _ _⟩
  rw [if_neg h0] at hE
  have h0' : ((n : Int) == 0) = false := by simp; omega
  by_cases h8 : 8 < n
  · rw [if_pos h8] at hE
    go_enter Tryd.func89, Tryd.ntmps89
    go_wp2
    go_ret
    subst hE
    exact ⟨rfl, Below.refl _ _⟩
  rw [if_neg h8] at hE
  have HE := hidden hE
  clear hE
  go_enter Tryd.func89, Tryd.ntmps89
  go_wp2_with fail
  go_loopw [16] (fun i wr => ∃ j : Nat, j ≤ n ∧ i = .int .i64 j ∧ errPrs ((j : Int) + 1) ((ls.map PrP.pr).drop j) = E ∧ Below w.heap.size w wr) (fun i _ => n - (intOf i).toNat)
  case atStart => exact ⟨0, by omega, rfl, by simpa using HE.out, Below.refl _ _⟩
  case round =>
    obtain ⟨j, hj, rfl, herr, hbel⟩ := hrel
    have HBL := hidden hbel
    by_cases hlt : ¬ j < n
    · obtain rfl : j = n := by omega
      rw [List.drop_of_length_le (by rw [List.length_map, HTL.out]; exact Nat.le_refl _), errPrs] at herr
      have HER := hidden herr
      clear herr hbel
      go_wp2
      go_ret
      have hE := HER.out
      subst hE
      exact ⟨rfl, HBL.out⟩
    replace hlt : j < n := by omega
    have hlt' : (j : Int) < n := by omega
    have htj := HT.out.below hbel
    obtain ⟨g, rfl, hc, hok⟩ := htj.cell j (by rw [HTL.out]; exact hlt)
    obtain ⟨y, hy⟩ : ∃ y, ls[j]'(by rw [HTL.out]; exact hlt) = y := ⟨_, rfl⟩
    rw [hy] at hc hok
    obtain ⟨E1, hE1⟩ : ∃ E1, errPr y.pr ((j : Int) + 1) = E1 := ⟨_, rfl⟩
    have hst := errPrs_stepP ls j (by rw [HTL.out]; exact hlt) y hy E E1 herr hE1
    have c0 := hc 0 _ rfl
    have c1 := hc 1 _ rfl
    have c2 := hc 2 _ rfl
    have c3 := hc 3 _ rfl
    simp only [KPr, Nat.add_zero] at c0 c1 c2 c3
    have hal : Below wr.heap.size wr (wr.alloc (.cells #[.int .i64 y.n, .int .i64 y.p, .slice y.sp y.sn y.sc, .slice y.tp y.tn y.tc] 111)) := (Below.refl _ _).alloc (Nat.le_refl _) _
    have HC := hidden (checkOne_any y ((j : Int) + 1) _ (DPr.keep hok (cell_below hal)))
    rw [hE1] at HC
    have HB1 := hidden (HBL.out.trans (hal.mono HBL.out.size))
    have HST := hidden hst
    have hj8 : (j : Int) + 1 ≤ 9 := by omega
    clear hc hok hst hal hE1 hy htj herr hbel
    go_wp2_with fail
    go_at_call 111
    (with_reducible refine (HC.out).mono ?_)
    rintro e w1 ⟨rfl, hb1⟩
    have HB2 := hidden (HB1.out.trans (hb1.mono HB1.out.size))
    clear hb1 c0 c1 c2 c3
    by_cases hz : E1 = 0
    · subst hz
      have hst := HST.out
      rw [if_neg (by simp)] at hst
      have HS := hidden hst
      clear hst HST
      go_wp2
      go_roundw
      case rel => exact ⟨j + 1, by omega, by go_num, HS.out.symm, HB2.out⟩
      case measure => simp [intOf]; omega
    · have hz' : (E1 != 0) = true := by simpa using hz
      have hst := HST.out
      rw [if_pos hz] at hst
      have HS := hidden hst
      clear hst HST hz
      go_wp2
      go_ret
      have hE := HS.out
      subst hE
      exact ⟨rfl, HB2.out⟩
end Go.Proofs.YtpocehpejbnemaaDoor

namespace Go.Proofs.YtpocehpejbnemaaDoor
open Go.RowKit
set_option linter.unusedVariables false

theorem encPs_step (l : List Pr) (j : Nat) (hj : j < l.length) (x : Pr) (hx : l[j] = x) : encPs (l.drop j) = secE (if j + 1 < l.length then 2 else 0) (inP x) ++ encPs (l.drop (j + 1)) := by
  subst hx
  rw [List.drop_eq_getElem_cons hj, encPs, encP_sec, List.length_drop]
  by_cases h : j + 1 < l.length
  · rw [if_neg (by omega), if_pos h]
  · rw [if_pos (by omega), if_neg h]
theorem inP_le {p : Pr} (h : OkP p) : (inP p).length ≤ 300 := by
  have h1 := lenP_le h
  have h2 := encP_len 0 p
  rw [encP_sec, secE_len] at h2
  omega
theorem inP_rng (p : Pr) (h : ∀ z ∈ p.s, 0 ≤ z ∧ z ≤ 255) : ∀ z ∈ inP p, 0 ≤ z ∧ z ≤ 255 := by
  refine rng_append ?_ (rng_append h ?_)
  · intro z hz; simp at hz; omega
  · have : ∀ l : List Tr, ∀ z ∈ encTs l, 0 ≤ z ∧ z ≤ 255 := by
      intro l
      induction l with
      | nil => intro z hz; simp [encTs] at hz
      | cons a l ih =>
        rw [encTs, encT_sec]
        exact rng_append (secE_rng _ _ (by split <;> omega) (inT_rng a)) ih
    exact this p.ts

/-- The results of Build. -/
def BuiltP (w : World) (L : List Int) (E : Int) (e : Ending) (w' : World) : Prop := ∃ v, e = .returned (.tuple #[v, .int .i64 E]) ∧ Own w' w.heap.size 5 v L ∧ Below w.heap.size w w'

set_option maxHeartbeats 3200000 in
set_option maxRecDepth 100000 in
theorem pbuild_any (p : Option Addr) (n c : Nat) (ls : List PrP) (w : World) (h : RdG KPr DPr w p n c ls) (L : List Int) (E : Int) (hE : buildP (ls.map PrP.pr) = (L, E)) :
    Calls Tryd.prog 57 #[.slice p n c] w (BuiltP w L E) := by
  obtain ⟨i0, hi0, hz0, hz1, hz2⟩ := info_parts Tryd.infoByte
  have hn := h.le
  have HT := hidden h
  have HTL := hidden h.len
  obtain ⟨E1, hE1⟩ : ∃ E1, checkP (ls.map PrP.pr) = E1 := ⟨_, rfl⟩
  have HC := hidden (checkAll_any p n c ls w h E1 hE1)
  unfold buildP at hE
  rw [hE1] at hE
  clear h
  by_cases hz : E1 ≠ 0
  · rw [if_pos hz] at hE
    simp at hE
    obtain ⟨rfl, rfl⟩ := hE
    have hz' : (E1 != 0) = true := by simpa using hz
    go_enter Tryd.func57, Tryd.ntmps57
    go_wp2_with fail
    go_at_call 89
    (with_reducible refine (HC.out).mono ?_)
    rintro e w1 ⟨rfl, hb1⟩
    go_wp2
    go_ret2
    exact ⟨_, rfl, Own.nil _ _ _, hb1⟩
  obtain rfl : E1 = 0 := by omega
  rw [if_neg (by simp)] at hE
  simp at hE
  obtain ⟨rfl, rfl⟩ := hE
  obtain ⟨q0, q1, q2⟩ := checkP_ok hE1
  rw [List.length_map, HTL.out] at q0 q1
  have HOK := hidden q2
  clear hz q2 hE1
  go_enter Tryd.func57, Tryd.ntmps57
  go_wp2_with fail
  go_at_call 89
  (with_reducible refine (HC.out).mono ?_)
  rintro e w1 ⟨rfl, hb1⟩
  have HB1 := hidden hb1
  clear hb1
  go_wp2_with fail
  go_loopw [5, 15] (fun u i wr => ∃ t : Nat, t ≤ n ∧ i = .int .i64 t ∧ ∃ xs : List Int, xs ++ encPs ((ls.map PrP.pr).drop t) = encPs (ls.map PrP.pr) ∧ xs.length ≤ t * 304 ∧ Own wr w.heap.size 5 u xs ∧ Below w.heap.size w wr) (fun _ i _ => n - (intOf i).toNat)
  case atStart => exact ⟨0, by omega, rfl, [], by simp, by simp, Own.nil _ _ _, HB1.out⟩
  case round =>
    obtain ⟨t, ht, rfl, xs, hxs, hxl, ho, hbl⟩ := hrel
    have HO := hidden ho
    have HBL := hidden hbl
    by_cases hlt : ¬ t < n
    · obtain rfl : t = n := by omega
      rw [List.drop_of_length_le (by rw [List.length_map, HTL.out]; exact Nat.le_refl _), encPs, List.append_nil] at hxs
      have HXS2 := hidden hxs
      clear hxs hbl ho
      go_wp2
      go_ret2
      rw [← HXS2.out]
      exact ⟨_, rfl, HO.out, HBL.out⟩
    replace hlt : t < n := by omega
    have hlt' : (t : Int) < n := by omega
    have htj := HT.out.below hbl
    obtain ⟨g, rfl, hc, hokd⟩ := htj.cell t (by rw [HTL.out]; exact hlt)
    obtain ⟨y, hy⟩ : ∃ y, ls[t]'(by rw [HTL.out]; exact hlt) = y := ⟨_, rfl⟩
    have hyo : OkP y.pr := HOK.out _ (by rw [← hy]; exact List.mem_map.2 ⟨_, List.getElem_mem _, rfl⟩)
    have hst := encPs_step (ls.map PrP.pr) t (by rw [List.length_map, HTL.out]; exact hlt) y.pr (by simp [hy])
    rw [hy] at hc hokd
    rw [List.length_map, HTL.out] at hst
    obtain ⟨b, hb⟩ : ∃ b, b = decide (t + 1 < n) := ⟨_, rfl⟩
    obtain ⟨mk, hmk⟩ : ∃ mk : Int, (if b = true then 2 else 0) = mk := ⟨_, rfl⟩
    have hmk' : (if t + 1 < n then (2 : Int) else 0) = mk := by rw [← hmk, hb]; simp
    rw [hmk'] at hst
    have hmb : 0 ≤ mk ∧ mk ≤ 255 := by rw [← hmk]; split <;> omega
    have hbd : decide ((t : Int) + 1 < n) = b := by rw [hb]; simp; omega
    have c0 := hc 0 _ rfl
    have c1 := hc 1 _ rfl
    have c2 := hc 2 _ rfl
    have c3 := hc 3 _ rfl
    simp only [KPr, Nat.add_zero] at c0 c1 c2 c3
    obtain ⟨M, hML⟩ : ∃ M : Nat, (inP y.pr).length = M := ⟨_, rfl⟩
    have hM8 : M ≤ 300 := by rw [← hML]; exact inP_le hyo
    have hnx : (xs ++ secE mk (inP y.pr)) ++ encPs ((ls.map PrP.pr).drop (t + 1)) = encPs (ls.map PrP.pr) := by rw [List.append_assoc, ← hst]; exact hxs
    have hnl : (xs ++ secE mk (inP y.pr)).length ≤ (t + 1) * 304 := by rw [List.length_append, secE_len, hML]; omega
    have HNX := hidden hnx
    have HNL := hidden hnl
    have HMK := hidden hmk
    have HT1 := hidden (fun w (h : OkD w y) => proposal_w y w h hyo M hML)
    have hal : Below wr.heap.size wr (wr.alloc (.cells #[.int .i64 y.n, .int .i64 y.p, .slice y.sp y.sn y.sc, .slice y.tp y.tn y.tc] 111)) := (Below.refl _ _).alloc (Nat.le_refl _) _
    have HOKA := hidden (DPr.keep hokd (cell_below hal))
    obtain ⟨W1, hW1⟩ : ∃ W1, wr.alloc (.cells #[.int .i64 y.n, .int .i64 y.p, .slice y.sp y.sn y.sc, .slice y.tp y.tn y.tc] 111) = W1 := ⟨_, rfl⟩
    rw [hW1] at HOKA
    have HOKD : Hid (OkD W1.drew y) := hidden (DPr.keep HOKA.out (cell_below (drew_below (B := W1.heap.size) ⟨1, rfl⟩)))
    generalize inP y.pr = ys at *
    clear hy hst hmk hmk' hyo hnx hnl hb hxs htj hokd
    obtain ⟨yn, yp, sp, sn, sc, s, tp, tn, tc, ts⟩ := y
    simp only at HT1 hW1 hal c0 c1 c2 c3 HOKD
    clear hc
    have e0 : W1.drew.cell? ⟨wr.heap.size, 0, none⟩ = some (.int .i64 yn) := by subst hW1; exact World.cell?_alloc_at _ _ _ _ rfl
    have e1 : W1.drew.cell? ⟨wr.heap.size, 1, none⟩ = some (.int .i64 yp) := by subst hW1; exact World.cell?_alloc_at _ _ _ _ rfl
    have e2 : W1.drew.cell? ⟨wr.heap.size, 2, none⟩ = some (.slice sp sn sc) := by subst hW1; exact World.cell?_alloc_at _ _ _ _ rfl
    have e3 : W1.drew.cell? ⟨wr.heap.size, 3, none⟩ = some (.slice tp tn tc) := by subst hW1; exact World.cell?_alloc_at _ _ _ _ rfl
    rw [hW1] at hal
    have HOD : Hid (Own W1.drew w.heap.size 5 u5 xs) := hidden ((ho.below hal).below (drew_below ⟨1, rfl⟩))
    have HBD : Hid (Below w.heap.size w W1.drew) := hidden (hbl.trans ((hal.mono hbl.size).trans (drew_below ⟨1, rfl⟩)))
    have hwt : IntKind.i64.wrap ((t : Int) + 1) = (t : Int) + 1 := by rw [IntKind.wrap_i64]; omega
    clear hal ho hbl HOKA
    go_wp2_with fail
    go_region_law (first
      | (go_simp; go_at_call 91; (with_reducible refine (mark_any 2 b _).mono ?_); rintro e wM ⟨rfl, rfl⟩; rw [HMK.out])
      | (go_simp; go_at_call 92; (with_reducible refine (HT1.out _ HOKD.out).mono ?_); rintro e wA ⟨qa, da, rfl, hoA, hyA, hbA⟩)
      | (go_simp; go_at_call 90; (with_reducible refine (section_w mk hmb qa M da ys _ hyA (by omega)).mono ?_); rintro e wB ⟨qb, db, rfl, hoB, hyB, hbB⟩)
      | (refine step_append_byt _ (by rfl) _ _ 22 (by rfl) w.heap.size 5 i0 (.int .u8 0) Tryd.underlying22 hi0 hz0 hz1 hz2 rfl _ _ (by rfl) ((HOD.out.below hbA).below hbB) _ _ _ _ _ (by rfl) hyB (by rfl) (by omega) (by have := HBD.out.size; have := hbA.size; have := hbB.size; omega) ?_; intro v6 w6 ho6 hg6))
    all_goals
      have hbB1 := HBD.out.trans (hbA.mono HBD.out.size)
      have hbB2 := hbB1.trans (hbB.mono hbB1.size)
      have HB6 := hidden (hbB2.grown hg6 hbB2.size (fun k hk => (((HOD.out.below hbA).below hbB).lt k hk).1))
      have HO6 := hidden ho6
      clear hbB1 hbB2 hg6 ho6 hoA hoB hyA hyB hbA hbB HOD HBD HO HBL
      go_wp2
      go_roundw
      case rel => exact ⟨t + 1, by omega, by go_num, _, HNX.out, HNL.out, HO6.out, HB6.out⟩
      case measure => simp [intOf]; omega
end Go.Proofs.YtpocehpejbnemaaDoor
