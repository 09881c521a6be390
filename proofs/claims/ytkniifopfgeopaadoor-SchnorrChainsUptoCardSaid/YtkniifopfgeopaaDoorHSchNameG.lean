/-
  Names of any string: schnorr's and the document's.
-/
import Derived.Test.YtkniifopfgeopaaDoorHSchSame
namespace Go.Proofs.YtkniifopfgeopaaDoor
open Go.RowKit
set_option linter.unusedVariables false

/-- Whether the string can be a name. -/
def nameB (s : ByteArray) : Bool := decide (1 ≤ s.size ∧ s.size ≤ 16 ∧ ∀ x ∈ letters s, 33 ≤ x ∧ x ≤ 126)
theorem nameB_ok {s : ByteArray} (h : nameB s = true) : NameOk s := by
  have := of_decide_eq_true h
  exact ⟨this.1, this.2.1, this.2.2⟩
theorem nameB_len {s : ByteArray} (h : s.size < 1 ∨ 16 < s.size) : nameB s = false := decide_eq_false (by omega)
theorem nameB_bad {s : ByteArray} (j : Nat) (hj : j < s.size) (h : (s[j].toNat : Int) < 33 ∨ 126 < (s[j].toNat : Int)) : nameB s = false := decide_eq_false (fun h9 => by
  have h1 := h9.2.2 ((letters s).getD j 0) (by rw [List.getD_eq_getElem?_getD, List.getElem?_eq_getElem (show j < (letters s).length by rw [letters_len]; exact hj)]; exact List.getElem_mem _)
  rw [letters_at s j hj] at h1
  omega)
theorem nameB_good {s : ByteArray} (h1 : 1 ≤ s.size) (h2 : s.size ≤ 16) (h : ∀ j (hj : j < s.size), (33 : Int) ≤ (s[j].toNat : Int) ∧ (s[j].toNat : Int) ≤ 126) : nameB s = true := decide_eq_true ⟨h1, h2, fun x hx => by
  obtain ⟨j, hj, rfl⟩ := List.mem_iff_getElem.1 hx
  have hj' : j < s.size := by rw [← letters_len]; exact hj
  have h9 := letters_at s j hj'
  rw [List.getD_eq_getElem?_getD, List.getElem?_eq_getElem hj] at h9
  simp only [Option.getD_some] at h9
  rw [h9]
  exact h j hj'⟩
set_option maxHeartbeats 800000 in
theorem isName_any (s : ByteArray) (w : World) (hb : s.size ≤ 1000000) : Calls Tryd.prog 40 #[.string s] w fun e w' => e = .returned (.bool (nameB s)) ∧ w = w' := by
  have HLE := hidden (nameB_len (s := s))
  have HBA := hidden (nameB_bad (s := s))
  have HGO := hidden (nameB_good (s := s))
  generalize nameB s = R at *
  go_enter Tryd.func40, Tryd.ntmps40
  go_wp2
  go_loop [6] (fun i => ∃ j : Nat, j ≤ s.size ∧ i = .int .i64 j ∧ Hid (∀ m (hm : m < s.size), m < j → (33 : Int) ≤ (s[m].toNat : Int) ∧ (s[m].toNat : Int) ≤ 126)) (fun i => s.size - (intOf i).toNat)
  case atStart => exact ⟨0, by omega, rfl, hidden (fun m hm h => by omega)⟩
  case round =>
    obtain ⟨j, hj, rfl, HJ⟩ := hrel
    by_cases hlt : j < s.size
    · by_cases hbad : (s[j].toNat : Int) < 33 ∨ (126 : Int) < (s[j].toNat : Int)
      · obtain rfl := HBA.out j hlt hbad
        clear HLE HBA HGO HJ
        by_cases b1 : (s[j].toNat : Int) < 33
        · clear hbad
          go_wp2
          go_ret
          exact ⟨rfl, rfl⟩
        · have b2 : (126 : Int) < (s[j].toNat : Int) := by omega
          clear hbad
          go_wp2
          go_ret
          exact ⟨rfl, rfl⟩
      · have b1 : ¬ (s[j].toNat : Int) < 33 := by omega
        have b2 : ¬ (126 : Int) < (s[j].toNat : Int) := by omega
        have HJ2 : Hid (∀ m (hm : m < s.size), m < j + 1 → (33 : Int) ≤ (s[m].toNat : Int) ∧ (s[m].toNat : Int) ≤ 126) := hidden (fun m hm h => by
          rcases Nat.lt_or_ge m j with h1 | h1
          · exact HJ.out m hm h1
          · obtain rfl : m = j := by omega
            omega)
        clear hbad HJ
        go_wp2
        go_round
        case rel => exact ⟨j + 1, by omega, by go_num, HJ2⟩
        case measure => simp [intOf]; omega
    · obtain rfl : j = s.size := by omega
      by_cases h1 : 1 ≤ s.size
      · by_cases h2 : s.size ≤ 16
        · obtain rfl := HGO.out h1 h2 (fun m hm => HJ.out m hm hm)
          have g1 : (1 : Int) ≤ (s.size : Int) := by omega
          have g2 : (s.size : Int) ≤ 16 := by omega
          clear HLE HBA HGO HJ
          go_wp2
          go_ret
          exact ⟨rfl, rfl⟩
        · obtain rfl := HLE.out (Or.inr (by omega))
          have g1 : (1 : Int) ≤ (s.size : Int) := by omega
          have g2 : ¬ (s.size : Int) ≤ 16 := by omega
          clear HLE HBA HGO HJ
          go_wp2
          go_ret
          exact ⟨rfl, rfl⟩
      · obtain rfl := HLE.out (Or.inl (by omega))
        have g1 : ¬ (1 : Int) ≤ (s.size : Int) := by omega
        clear HLE HBA HGO HJ
        go_wp2
        go_ret
        exact ⟨rfl, rfl⟩
set_option maxHeartbeats 800000 in
theorem rName_any (s : ByteArray) (w : World) (hb : s.size ≤ 1000000) : Calls Tryd.prog 43 #[.string s] w fun e w' => e = .returned (.bool (nameB s)) ∧ w = w' := by
  have HBA := hidden (nameB_bad (s := s))
  have HGO := hidden (nameB_good (s := s))
  by_cases h1 : s.size < 1
  · rw [nameB_len (Or.inl h1)]
    have g1 : (s.size : Int) < 1 := by omega
    clear HBA HGO h1
    go_enter Tryd.func43, Tryd.ntmps43
    go_wp2
    go_ret
    exact ⟨rfl, rfl⟩
  have g1 : ¬ (s.size : Int) < 1 := by omega
  by_cases h2 : 16 < s.size
  · rw [nameB_len (Or.inr h2)]
    have g2 : (16 : Int) < (s.size : Int) := by omega
    clear HBA HGO h1 h2
    go_enter Tryd.func43, Tryd.ntmps43
    go_wp2
    go_ret
    exact ⟨rfl, rfl⟩
  have g2 : ¬ (16 : Int) < (s.size : Int) := by omega
  generalize nameB s = R at *
  go_enter Tryd.func43, Tryd.ntmps43
  go_wp2
  go_loop [3] (fun i => ∃ j : Nat, j ≤ s.size ∧ i = .int .i64 j ∧ Hid (∀ m (hm : m < s.size), m < j → (33 : Int) ≤ (s[m].toNat : Int) ∧ (s[m].toNat : Int) ≤ 126)) (fun i => s.size - (intOf i).toNat)
  case atStart => exact ⟨0, by omega, rfl, hidden (fun m hm h => by omega)⟩
  case round =>
    obtain ⟨j, hj, rfl, HJ⟩ := hrel
    by_cases hlt : j < s.size
    · by_cases hbad : (s[j].toNat : Int) < 33 ∨ (126 : Int) < (s[j].toNat : Int)
      · obtain rfl := HBA.out j hlt hbad
        clear HBA HGO HJ
        by_cases b1 : (s[j].toNat : Int) < 33
        · clear hbad
          go_wp2
          go_ret
          exact ⟨rfl, rfl⟩
        · have b2 : (126 : Int) < (s[j].toNat : Int) := by omega
          clear hbad
          go_wp2
          go_ret
          exact ⟨rfl, rfl⟩
      · have b1 : ¬ (s[j].toNat : Int) < 33 := by omega
        have b2 : ¬ (126 : Int) < (s[j].toNat : Int) := by omega
        have HJ2 : Hid (∀ m (hm : m < s.size), m < j + 1 → (33 : Int) ≤ (s[m].toNat : Int) ∧ (s[m].toNat : Int) ≤ 126) := hidden (fun m hm h => by
          rcases Nat.lt_or_ge m j with h1 | h1
          · exact HJ.out m hm h1
          · obtain rfl : m = j := by omega
            omega)
        clear hbad HJ
        go_wp2
        go_round
        case rel => exact ⟨j + 1, by omega, by go_num, HJ2⟩
        case measure => simp [intOf]; omega
    · obtain rfl : j = s.size := by omega
      obtain rfl := HGO.out (by omega) (by omega) (fun m hm => HJ.out m hm hm)
      clear HBA HGO HJ
      go_wp2
      go_ret
      exact ⟨rfl, rfl⟩
end Go.Proofs.YtkniifopfgeopaaDoor
