/-
  What wire.Compare returns: the lexicographic order of two slices of bytes.
-/
import Derived.Test.YtdlbjbfonihglaaRows
import Derived.Test.YtdlbjbfonihglaaBytes
import Derived.Test.YtdlbjbfonihglaaNum
namespace Go.Proofs.Ytdlbjbfonihglaa
open Go.RowKit
set_option linter.unusedVariables false

/-- The bytes as the stand-in reads them. -/
theorem loadBytes_byt {P : Program} (w : World) : ∀ (xs : List Int) (b o : Nat) (acc : ByteArray), (∀ i, i < xs.length → w.cell? ⟨b, o + i, none⟩ = some (.int .u8 (xs.getD i 0))) →
    (Extern.Bytes.loadBytes ⟨b, o, none⟩ xs.length acc).run P w = .ok ⟨acc.data ++ (strOfNums xs).data⟩ w
  | [], b, o, acc, _ => by simp [Extern.Bytes.loadBytes, strOfNums]
  | x :: xs, b, o, acc, h => by
    have h0 := h 0 (by simp)
    simp only [Nat.add_zero, List.getD_cons_zero] at h0
    have ih := loadBytes_byt (P := P) w xs b (o + 1) (acc.push x.toNat.toUInt8) (fun i hi => by
      have := h (i + 1) (by simp; omega)
      rw [List.getD_cons_succ] at this
      rw [← this, Nat.add_assoc, Nat.add_comm 1 i])
    have ha : (⟨b, o, none⟩ : Addr).add 1 = ⟨b, o + 1, none⟩ := by simp [Addr.add]
    simp only [List.length_cons, Extern.Bytes.loadBytes, Sem.run_bind, run_load, h0, Result.andThen, ha]
    rw [ih]
    congr 1
    apply ByteArray.ext
    simp [ByteArray.push, strOfNums]

theorem bytesOf_byt {P : Program} {w : World} {p : Option Addr} {n c : Nat} {xs : List Int} (h : Byt w p n c xs) : (Extern.Bytes.bytesOf (.slice p n c)).run P w = .ok (strOfNums xs) w := by
  have hl := h.len
  cases p with
  | none =>
    have hn : n = 0 := by
      rcases Nat.eq_zero_or_pos n with h0 | h0
      · exact h0
      · obtain ⟨b, o, h, _⟩ := h.at_ h0
        cases h
    subst hn
    obtain rfl : xs = [] := List.eq_nil_of_length_eq_zero hl
    rfl
  | some a =>
    rcases Nat.eq_zero_or_pos n with h0 | h0
    · subst h0
      obtain rfl : xs = [] := List.eq_nil_of_length_eq_zero hl
      rfl
    · obtain ⟨b, o, e, hc⟩ := h.at_ h0
      injection e with e
      subst e
      subst hl
      have := loadBytes_byt (P := P) w xs b o .empty hc
      have e : (⟨ByteArray.empty.data ++ (strOfNums xs).data⟩ : ByteArray) = strOfNums xs := by
        apply ByteArray.ext
        show (#[] : Array UInt8) ++ (strOfNums xs).data = (strOfNums xs).data
        simp
      rw [e] at this
      exact this

theorem getb (xs : List Int) (i : Nat) (h : i < xs.length) : (strOfNums xs)[i]! = UInt8.ofNat (xs.getD i 0).toNat := by
  have hs : i < (strOfNums xs).size := by rw [strOfNums_size]; exact h
  rw [getElem!_pos (strOfNums xs) i hs]
  show (strOfNums xs).data[i] = _
  simp [strOfNums, List.getD_eq_getElem?_getD, List.getElem?_eq_getElem h]

theorem cmp_step (xs ys : List Int) (hx : ∀ x ∈ xs, 0 ≤ x ∧ x ≤ 255) (hy : ∀ x ∈ ys, 0 ≤ x ∧ x ≤ 255) (k : Nat) (hkx : k < xs.length) (hky : k < ys.length) :
    ((strOfNums xs)[k]! != (strOfNums ys)[k]!) = decide (xs.getD k 0 ≠ ys.getD k 0) ∧ ((strOfNums xs)[k]! < (strOfNums ys)[k]! ↔ xs.getD k 0 < ys.getD k 0) := by
  rw [getb xs k hkx, getb ys k hky]
  have h1 := rng_getD hx k
  have h2 := rng_getD hy k
  constructor
  · rw [Bool.eq_iff_iff]
    simp only [bne_iff_ne, decide_eq_true_eq, ne_eq]
    apply not_congr
    constructor
    · intro h
      have h3 := congrArg UInt8.toNat h
      simp only [UInt8.toNat_ofNat'] at h3
      omega
    · intro h
      rw [h]
  · rw [UInt8.lt_iff_toNat_lt]
    simp only [UInt8.toNat_ofNat']
    omega

theorem cmp_eq (xs ys : List Int) (hx : ∀ x ∈ xs, 0 ≤ x ∧ x ≤ 255) (hy : ∀ x ∈ ys, 0 ≤ x ∧ x ≤ 255) : Extern.BytealgCompare.cmp (strOfNums xs) (strOfNums ys) = cmpR xs ys := by
  have key : ∀ (j k : Nat), k + j = min xs.length ys.length → cmpR xs ys = cmpR (xs.drop k) (ys.drop k) →
      (match ((List.range' k j).find? fun i => (strOfNums xs)[i]! != (strOfNums ys)[i]!) with
      | some i => if (strOfNums xs)[i]! < (strOfNums ys)[i]! then (-1 : Int) else 1
      | none => if xs.length < ys.length then -1 else if xs.length > ys.length then 1 else 0) = cmpR xs ys := by
    intro j
    induction j with
    | zero =>
      intro k hk he
      have h3 := cmpR_end xs ys k (by omega) (by omega) (by omega) he
      simp only [List.range'_zero, List.find?_nil]
      by_cases h1 : xs.length < ys.length
      · rw [if_pos h1, h3.1 h1]
      · by_cases h2 : ys.length < xs.length
        · rw [if_neg h1, if_pos h2, h3.2.1 h2]
        · rw [if_neg h1, if_neg h2, h3.2.2 (by omega)]
    | succ j ih =>
      intro k hk he
      have h3 := cmpR_step xs ys k (by omega) (by omega) he
      have h4 := cmp_step xs ys hx hy k (by omega) (by omega)
      rw [List.range'_succ, List.find?_cons]
      by_cases hne : xs.getD k 0 = ys.getD k 0
      · rw [show ((strOfNums xs)[k]! != (strOfNums ys)[k]!) = false by rw [h4.1]; exact decide_eq_false (fun h => h hne)]
        exact ih (k + 1) (by omega) (h3.2.2 hne)
      · rw [show ((strOfNums xs)[k]! != (strOfNums ys)[k]!) = true by rw [h4.1]; exact decide_eq_true hne]
        simp only
        by_cases hlt : xs.getD k 0 < ys.getD k 0
        · rw [if_pos (h4.2.2 hlt), h3.1 hlt]
        · rw [if_neg (fun h => hlt (h4.2.1 h)), h3.2.1 (by omega)]
  have := key (min xs.length ys.length) 0 (by omega) rfl
  unfold Extern.BytealgCompare.cmp
  rw [strOfNums_size, strOfNums_size, List.range_eq_range']
  exact this

theorem run_compare_byt {P : Program} {w : World} {p q : Option Addr} {n c m d : Nat} {xs ys : List Int} (h : Byt w p n c xs) (k : Byt w q m d ys) :
    (Extern.BytealgCompare.compare #[.slice p n c, .slice q m d]).run P w = .ok (.int .i64 (cmpR xs ys)) w := by
  have h1 := bytesOf_byt (P := P) h
  have h2 := bytesOf_byt (P := P) k
  change Sem.run P (do pure (goInt (Extern.BytealgCompare.cmp (← Extern.Bytes.bytesOf (.slice p n c)) (← Extern.Bytes.bytesOf (.slice q m d))))) w = _
  simp only [Sem.run_bind, Sem.run_pure, h1, h2, Result.andThen, cmp_eq xs ys h.rng k.rng]
  rfl

set_option maxHeartbeats 400000 in
theorem bytesCompare_any (p q : Option Addr) (n c m d : Nat) (xs ys : List Int) (w : World) (h : Byt w p n c xs) (k : Byt w q m d ys) :
    Calls Try.prog 32 #[.slice p n c, .slice q m d] w fun e w' => e = .returned (.int .i64 (cmpR xs ys)) ∧ w = w' := by
  have H := hidden (run_compare_byt (P := Try.prog) h k)
  clear h k
  go_enter Try.func32, Try.ntmps32
  go_wp2
  rw [run_callFunc_extern Try.func35 (by kernel_rfl) (by kernel_rfl) (by kernel_rfl) (e := Extern.BytealgCompare.compare) (by kernel_rfl), H.out]
  simp only [Result.andThen]
  rw [Oper.upon_value]
  go_wp2
  go_ret
  exact ⟨rfl, rfl⟩

theorem compare_any (p q : Option Addr) (n c m d : Nat) (xs ys : List Int) (w : World) (h : Byt w p n c xs) (k : Byt w q m d ys) :
    Calls Try.prog 22 #[.slice p n c, .slice q m d] w fun e w' => e = .returned (.int .i64 (cmpR xs ys)) ∧ w = w' := by
  have HC := hidden (bytesCompare_any p q n c m d xs ys w h k)
  clear h k
  go_enter Try.func22, Try.ntmps22
  go_wp2_with (go_at_call 32; refine HC.out.mono ?_; rintro e w' ⟨rfl, rfl⟩)
  go_ret
  exact ⟨rfl, rfl⟩
end Go.Proofs.Ytdlbjbfonihglaa
