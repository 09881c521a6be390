/-
  What the document's own Compare and Equal return: the lexicographic order of two slices of bytes, and whether they are equal.
  What wire.Equal returns: whether two slices of bytes hold the same numbers.
-/
import Derived.Test.YtpocehpejbnemaaDoorRows
import Derived.Test.YtpocehpejbnemaaDoorRZ0
import Derived.Deep.QuietTactic
import Derived.BigQuiet
namespace Go.Proofs.YtpocehpejbnemaaDoor
open Go.RowKit
set_option linter.unusedVariables false

theorem below_drewN {B : Nat} {w : World} (n : Nat) : Below B w (w.drewN n) := ⟨rfl, rfl, rfl, Nat.le_refl _, fun _ _ => rfl⟩

set_option maxHeartbeats 800000 in
theorem rcompare_any (p q : Option Addr) (n c m d : Nat) (xs ys : List Int) (w : World) (h : Byt w p n c xs) (k : Byt w q m d ys) :
    Calls Tryd.prog 41 #[.slice p n c, .slice q m d] w fun e w' => e = .returned (.int .i64 (cmpR xs ys)) ∧ ∃ r, w' = w.drewN r := by
  have hln := h.le
  have hlm := k.le
  have HX := hidden h.len
  have HY := hidden k.len
  have HC := hidden (fun j (hj : j < n) => (show ∃ b o, p = some ⟨b, o, none⟩ ∧ w.cell? ⟨b, o + j, none⟩ = some (.int .u8 (xs.getD j 0)) by
    obtain ⟨b, o, e, hc⟩ := h.at_ (by omega)
    exact ⟨b, o, e, hc j hj⟩))
  have HD := hidden (fun j (hj : j < m) => (show ∃ b o, q = some ⟨b, o, none⟩ ∧ w.cell? ⟨b, o + j, none⟩ = some (.int .u8 (ys.getD j 0)) by
    obtain ⟨b, o, e, hc⟩ := k.at_ (by omega)
    exact ⟨b, o, e, hc j hj⟩))
  have HR := hidden h.rng
  have HS := hidden k.rng
  clear h k
  go_enter Tryd.func41, Tryd.ntmps41
  go_wp2
  go_loopw [5] (fun i wr => ∃ j : Nat, j ≤ n ∧ j ≤ m ∧ i = .int .i64 j ∧ cmpR xs ys = cmpR (xs.drop j) (ys.drop j) ∧ ∃ r, wr = w.drewN r) (fun i _ => n - (intOf i).toNat)
  case atStart => exact ⟨0, by omega, by omega, rfl, rfl, 0, rfl⟩
  case round =>
    obtain ⟨j, hjn, hjm, rfl, he, r, rfl⟩ := hrel
    by_cases h1 : j < n
    · by_cases h2 : j < m
      · obtain ⟨b, o, rfl, hc1⟩ := HC.out j h1
        obtain ⟨b', o', rfl, hc2⟩ := HD.out j h2
        have hs := cmpR_step xs ys j (by rw [HX.out]; exact h1) (by rw [HY.out]; exact h2) he
        have r1 := rng_getD HR.out j
        have r2 := rng_getD HS.out j
        clear he
        generalize xs.getD j 0 = x at *
        generalize ys.getD j 0 = y at *
        by_cases hl : x < y
        · have E := hidden (hs.1 hl)
          clear hs
          go_wp2
          go_quiet (fail)
          go_wp2
          go_ret
          refine ⟨by rw [E.out]; rfl, ?_⟩
          simp only [World.drewN_drewN]
          exact ⟨_, rfl⟩
        · by_cases hg : y < x
          · have E := hidden (hs.2.1 hg)
            clear hs
            go_wp2
            go_quiet (fail)
            go_wp2
            go_quiet (fail)
            go_wp2
            go_ret
            refine ⟨by rw [E.out]; rfl, ?_⟩
            simp only [World.drewN_drewN]
            exact ⟨_, rfl⟩
          · have E := hidden (hs.2.2 (by omega))
            clear hs
            go_wp2
            go_quiet (fail)
            go_wp2
            go_quiet (fail)
            go_wp2
            go_roundw
            case rel => exact ⟨j + 1, by omega, by omega, by go_num, E.out, _, rfl⟩
            case measure => simp [intOf]; omega
      · have E := hidden (cmpR_end xs ys j (by rw [HX.out, HY.out]; omega) (by rw [HX.out]; omega) (by rw [HY.out]; omega) he)
        clear he
        obtain rfl : j = m := by omega
        have E1 := hidden (E.out.2.1 (by rw [HX.out, HY.out]; omega))
        clear E HC HD
        go_wp2
        go_ret
        exact ⟨by rw [E1.out]; rfl, _, rfl⟩
    · have E := hidden (cmpR_end xs ys j (by rw [HX.out, HY.out]; omega) (by rw [HX.out]; omega) (by rw [HY.out]; omega) he)
      clear he
      obtain rfl : j = n := by omega
      by_cases h2 : j < m
      · have E1 := hidden (E.out.1 (by rw [HX.out, HY.out]; omega))
        clear E HC HD
        go_wp2
        go_ret
        exact ⟨by rw [E1.out]; rfl, _, rfl⟩
      · obtain rfl : j = m := by omega
        have E1 := hidden (E.out.2.2 (by rw [HX.out, HY.out]))
        clear E HC HD
        go_wp2
        go_ret
        exact ⟨by rw [E1.out]; rfl, _, rfl⟩

set_option maxHeartbeats 400000 in
theorem requal_any (p q : Option Addr) (n c m d : Nat) (xs ys : List Int) (w : World) (h : Byt w p n c xs) (k : Byt w q m d ys) :
    Calls Tryd.prog 21 #[.slice p n c, .slice q m d] w fun e w' => e = .returned (.bool (decide (xs = ys))) ∧ ∃ r, w' = w.drewN r := by
  have HC := hidden (rcompare_any p q n c m d xs ys w h k)
  have he : decide (xs = ys) = (cmpR xs ys == 0) := by
    rw [Bool.eq_iff_iff, decide_eq_true_eq, beq_iff_eq]
    exact ⟨fun e => by rw [e, cmpR_refl], cmpR_eq xs ys⟩
  have HE := hidden he
  clear h k he
  go_enter Tryd.func21, Tryd.ntmps21
  go_wp2_with (go_at_call 41; refine HC.out.mono ?_; rintro e w' ⟨rfl, r, rfl⟩)
  go_ret
  exact ⟨by rw [HE.out]; rfl, _, rfl⟩
end Go.Proofs.YtpocehpejbnemaaDoor

namespace Go.Proofs.YtpocehpejbnemaaDoor
open Go.RowKit
set_option linter.unusedVariables false

theorem toList_nums (xs : List Int) : (strOfNums xs).toList = xs.map fun n => UInt8.ofNat n.toNat := by
  unfold ByteArray.toList
  rw [ByteArray.toList_loop_eq _ _ 0 [] rfl (Nat.zero_le _)]
  rfl
theorem strOfNums_inj : ∀ (xs ys : List Int), (∀ x ∈ xs, 0 ≤ x ∧ x ≤ 255) → (∀ x ∈ ys, 0 ≤ x ∧ x ≤ 255) → (strOfNums xs).toList = (strOfNums ys).toList → xs = ys := by
  suffices h : ∀ (xs ys : List Int), (∀ x ∈ xs, 0 ≤ x ∧ x ≤ 255) → (∀ x ∈ ys, 0 ≤ x ∧ x ≤ 255) → (xs.map fun n => UInt8.ofNat n.toNat) = (ys.map fun n => UInt8.ofNat n.toNat) → xs = ys by
    intro xs ys hx hy he
    refine h xs ys hx hy ?_
    rw [← toList_nums, ← toList_nums, he]
  intro xs
  induction xs with
  | nil => intro ys _ _ h; cases ys with
    | nil => rfl
    | cons y ys => simp at h
  | cons x xs ih =>
    intro ys hx hy h
    cases ys with
    | nil => simp at h
    | cons y ys =>
      simp only [List.map_cons, List.cons.injEq] at h
      have h1 := hx x (by simp)
      have h2 := hy y (by simp)
      have h3 := congrArg UInt8.toNat h.1
      simp only [UInt8.toNat_ofNat'] at h3
      rw [show x = y by omega, ih ys (fun z hz => hx z (by simp [hz])) (fun z hz => hy z (by simp [hz])) h.2]

theorem conv_byt {P : Program} {w : World} {p : Option Addr} {n c : Nat} {xs : List Int} (h : Byt w p n c xs) (src e dst : TypeId) (hs : P.underlying src = some (.slice e)) (he : P.underlying e = some (.int .u8)) (hd : P.underlying dst = some .string) :
    (convert src dst (.slice p n c)).run P w = .ok (.string (strOfNums xs)) w := by
  have hl := h.len
  rcases Nat.eq_zero_or_pos n with h0 | h0
  · subst h0
    obtain rfl : xs = [] := List.eq_nil_of_length_eq_zero hl
    rw [run_convert_bytes_string w src dst e _ 0 c hs he hd]
    cases p <;> simp [Conv.bytesToString, loadCells]
    all_goals rfl
  · obtain ⟨b, o, rfl, hc⟩ := h.at_ h0
    exact run_convert_bytes_arg w src e hs he b o n c xs hl hc dst hd

end Go.Proofs.YtpocehpejbnemaaDoor
