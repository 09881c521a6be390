/-
  What package proposal's Check returns.
-/
import Derived.Test.YtmjagbghgbemaaaDoorQRCheck4
import Derived.Deep.RegionLaw
namespace Go.Proofs.YtmjagbghgbemaaaDoor
open Go.RowKit
set_option linter.unusedVariables false

set_option maxHeartbeats 400000 in
theorem isSpi_any (p : Int) (n : Nat) (w : World) (b : Bool) (hb : b = true ↔ (p = 1 ∧ (n = 0 ∨ n = 8)) ∨ (p ≠ 1 ∧ n = 4)) :
    Calls Tryd.prog 95 #[.int .i64 p, .int .i64 n] w fun e w' => e = .returned (.bool b) ∧ w = w' := by
  by_cases h1 : p = 1
  · subst h1
    by_cases h0 : n = 0
    · subst h0
      obtain rfl : b = true := by simpa using hb
      clear hb
      go_enter Tryd.func95, Tryd.ntmps95
      go_wp2
      go_ret
      exact ⟨rfl, rfl⟩
    · have hb' : b = ((n : Int) == 8) := by
        rw [Bool.eq_iff_iff, hb]
        simp [h0]
        omega
      have h0' : ((n : Int) == 0) = false := by simpa using h0
      clear hb
      go_enter Tryd.func95, Tryd.ntmps95
      go_wp2
      go_ret
      exact ⟨by rw [hb']; rfl, rfl⟩
  · have h1' : (p == 1) = false := by simpa using h1
    have hb' : b = ((n : Int) == 4) := by
      rw [Bool.eq_iff_iff, hb]
      simp [h1]
      omega
    clear hb
    go_enter Tryd.func95, Tryd.ntmps95
    go_wp2
    go_ret
    exact ⟨by rw [hb']; rfl, rfl⟩

set_option maxHeartbeats 400000 in
theorem inRange_no (t i k : Int) (w : World) (h : t < 1 ∨ 5 < t ∨ i < 0 ∨ 65535 < i ∨ k < 0 ∨ 65535 < k) :
    Calls Tryd.prog 96 #[.agg #[.int .i64 t, .int .i64 i, .int .i64 k]] w fun e w' => e = .returned (.bool false) ∧ Below w.heap.size w w' := by
  by_cases q1 : t < 1
  · have r1 : ¬ 1 ≤ t := by omega
    clear h
    go_enter Tryd.func96, Tryd.ntmps96
    go_wp2
    go_ret
    exact ⟨rfl, (Below.refl _ w).alloc (Nat.le_refl _) _⟩
  have r1 : 1 ≤ t := by omega
  by_cases q2 : 5 < t
  · have r2 : ¬ t ≤ 5 := by omega
    clear h
    go_enter Tryd.func96, Tryd.ntmps96
    go_wp2
    go_ret
    exact ⟨rfl, (Below.refl _ w).alloc (Nat.le_refl _) _⟩
  have r2 : t ≤ 5 := by omega
  by_cases q3 : i < 0
  · have r3 : ¬ 0 ≤ i := by omega
    clear h
    go_enter Tryd.func96, Tryd.ntmps96
    go_wp2
    go_ret
    exact ⟨rfl, (Below.refl _ w).alloc (Nat.le_refl _) _⟩
  have r3 : 0 ≤ i := by omega
  by_cases q4 : 65535 < i
  · have r4 : ¬ i ≤ 65535 := by omega
    clear h
    go_enter Tryd.func96, Tryd.ntmps96
    go_wp2
    go_ret
    exact ⟨rfl, (Below.refl _ w).alloc (Nat.le_refl _) _⟩
  have r4 : i ≤ 65535 := by omega
  by_cases q5 : k < 0
  · have r5 : ¬ 0 ≤ k := by omega
    clear h
    go_enter Tryd.func96, Tryd.ntmps96
    go_wp2
    go_ret
    exact ⟨rfl, (Below.refl _ w).alloc (Nat.le_refl _) _⟩
  have r5 : 0 ≤ k := by omega
  have r6 : ¬ k ≤ 65535 := by omega
  clear h
  go_enter Tryd.func96, Tryd.ntmps96
  go_wp2
  go_ret
  exact ⟨by simp <;> omega, (Below.refl _ w).alloc (Nat.le_refl _) _⟩
set_option maxHeartbeats 400000 in
theorem inRange_yes (t i k : Int) (w : World) (h : ¬ (t < 1 ∨ 5 < t ∨ i < 0 ∨ 65535 < i ∨ k < 0 ∨ 65535 < k)) :
    Calls Tryd.prog 96 #[.agg #[.int .i64 t, .int .i64 i, .int .i64 k]] w fun e w' => e = .returned (.bool true) ∧ Below w.heap.size w w' := by
  have r1 : 1 ≤ t := by omega
  have r2 : t ≤ 5 := by omega
  have r3 : 0 ≤ i := by omega
  have r4 : i ≤ 65535 := by omega
  have r5 : 0 ≤ k := by omega
  have r6 : k ≤ 65535 := by omega
  clear h
  go_enter Tryd.func96, Tryd.ntmps96
  go_wp2
  go_ret
  exact ⟨by simp <;> omega, (Below.refl _ w).alloc (Nat.le_refl _) _⟩

set_option maxHeartbeats 800000 in
theorem index_any (p : Option Addr) (n c : Nat) (l : List Tr) (w : World) (h : RdG KTr DTr w p n c l) (t i k : Int) :
    Calls Tryd.prog 103 #[.slice p n c, .agg #[.int .i64 t, .int .i64 i, .int .i64 k]] w fun e w' => ∃ r : Int, e = .returned (.int .i64 r) ∧ (0 ≤ r ↔ (⟨t, i, k⟩ : Tr) ∈ l) ∧ Below w.heap.size w w' := by
  have hn := h.le
  have HT := hidden h
  have HTL := hidden h.len
  clear h
  go_enter Tryd.func103, Tryd.ntmps103
  go_wp2_with fail
  go_loopw [8] (fun m wq => ∃ q : Nat, q ≤ n ∧ m = .int .i64 q ∧ (∀ r, r < q → l[r]? ≠ some ⟨t, i, k⟩) ∧ wq.cell? ⟨w.heap.size, 0, none⟩ = some (.int .i64 t) ∧ wq.cell? ⟨w.heap.size, 1, none⟩ = some (.int .i64 i) ∧ wq.cell? ⟨w.heap.size, 2, none⟩ = some (.int .i64 k) ∧ Below w.heap.size w wq) (fun m _ => n - (intOf m).toNat)
  case atStart => exact ⟨0, by omega, rfl, by omega, by go_simp, by go_simp, by go_simp, (Below.refl _ w).alloc (Nat.le_refl _) _⟩
  case round =>
    obtain ⟨q, hq, rfl, hno, y0, y1, y2, hbq⟩ := hrel
    have HNO := hidden hno
    have HBQ := hidden hbq
    have HY0 := hidden y0
    have HY1 := hidden y1
    have HY2 := hidden y2
    clear hno hbq
    by_cases hqj : ¬ q < n
    · obtain rfl : q = n := by omega
      have hnot : (⟨t, i, k⟩ : Tr) ∉ l := by
        intro hm
        obtain ⟨r, hr, he⟩ := List.mem_iff_getElem.1 hm
        exact HNO.out r (by have := HTL.out; omega) (by rw [List.getElem?_eq_getElem hr, he])
      have HN := hidden hnot
      clear hnot y0 y1 y2
      go_wp2
      go_ret
      exact ⟨-1, rfl, ⟨fun h => by omega, fun h => absurd h HN.out⟩, HBQ.out⟩
    replace hqj : q < n := by omega
    have hqj' : (q : Int) < n := by omega
    obtain ⟨g, rfl, hc, hint⟩ := (HT.out.below HBQ.out).cell q (by rw [HTL.out]; omega)
    obtain ⟨z, hz⟩ : ∃ z, l[q]'(by rw [HTL.out]; omega) = z := ⟨_, rfl⟩
    rw [hz] at hc
    have HZ := hidden hz
    obtain ⟨zt, zi, zk⟩ := z
    have z0 := hc 0 _ rfl
    have z1 := hc 1 _ rfl
    have z2 := hc 2 _ rfl
    simp only [KTr, Nat.add_zero] at z0 z1 z2
    clear hc hint hz
    have hqe := fun w => eql_tr w t i k zt zi zk
    by_cases heq : t = zt ∧ i = zi ∧ k = zk
    · obtain ⟨rfl, rfl, rfl⟩ := heq
      have hin : (⟨t, i, k⟩ : Tr) ∈ l := List.mem_iff_getElem.2 ⟨q, by have := HTL.out; omega, HZ.out⟩
      have HIN := hidden hin
      have hqb : (t == t && i == i && k == k) = true := by simp
      simp only [hqb] at hqe
      clear hin hqb
      go_wp2_with fail
      go_region
      go_wp2
      go_ret
      exact ⟨q, rfl, ⟨fun _ => HIN.out, fun _ => by omega⟩, HBQ.out.trans (drew_below ⟨1, rfl⟩)⟩
    · have hqb : (t == zt && i == zi && k == zk) = false := by
        rw [Bool.eq_false_iff]
        intro hh
        simp at hh
        exact heq ⟨hh.1.1, hh.1.2, hh.2⟩
      simp only [hqb] at hqe
      clear hqb
      go_wp2_with fail
      go_region
      go_wp2
      go_roundw
      case rel =>
        refine ⟨q + 1, by omega, by go_num, fun r hr => ?_, HY0.out, HY1.out, HY2.out, HBQ.out.trans (drew_below ⟨1, rfl⟩)⟩
        rcases Nat.lt_succ_iff_lt_or_eq.1 hr with hrq | hrq
        · exact HNO.out r hrq
        · subst hrq
          rw [List.getElem?_eq_getElem (by have := HTL.out; omega), HZ.out]
          intro hh
          simp at hh
          exact heq ⟨hh.1.symm, hh.2.1.symm, hh.2.2.symm⟩
      case measure => simp [intOf]; omega

set_option maxHeartbeats 400000 in
theorem contains_any (p : Option Addr) (n c : Nat) (l : List Tr) (w : World) (h : RdG KTr DTr w p n c l) (t i k : Int) (b : Bool) (hb : b = true ↔ (⟨t, i, k⟩ : Tr) ∈ l) :
    Calls Tryd.prog 97 #[.slice p n c, .agg #[.int .i64 t, .int .i64 i, .int .i64 k]] w fun e w' => e = .returned (.bool b) ∧ Below w.heap.size w w' := by
  have HT := hidden h
  have HB := hidden hb
  clear h hb
  go_enter Tryd.func97, Tryd.ntmps97
  go_wp2_with (go_at_call 103; (with_reducible refine (index_any p n c l _ (HT.out.below ((Below.refl _ w).alloc (Nat.le_refl _) _)) t i k).mono ?_); rintro e w1 ⟨r, rfl, hr, hbel⟩)
  go_ret
  refine ⟨?_, ((Below.refl _ w).alloc (Nat.le_refl _) _).trans (hbel.mono (by simp))⟩
  have e : decide ((⟨t, i, k⟩ : Tr) ∈ l) = b := by
    rw [Bool.eq_iff_iff, HB.out]
    simp
  rw [← e]
  rfl
end Go.Proofs.YtmjagbghgbemaaaDoor
