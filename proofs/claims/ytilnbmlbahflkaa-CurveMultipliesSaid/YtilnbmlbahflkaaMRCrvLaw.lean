/-
  Both Multiplys and both Shareds, of any bytes: what they return, as lists.
-/
import Derived.Test.YtilnbmlbahflkaaMRCrvMult
import Derived.Test.YtilnbmlbahflkaaMCrvPub
namespace Go.Proofs.Ytilnbmlbahflkaa
open Go.RowKit
set_option linter.unusedVariables false

def mulL (n1 n2 : Nat) (s t : List Int) : List Int := if n1 = 32 ∧ n2 = 32 then mulB s t else []
def mulE (n1 n2 : Nat) : Int := if n1 = 32 ∧ n2 = 32 then 0 else 2
def shaL (s t : List Int) : List Int := if mulB s t = List.replicate 32 0 then [] else mulB s t
def shaE (s t : List Int) : Int := if mulB s t = List.replicate 32 0 then 13 else 0
/-- The call returns these bytes and this error. -/
def MulTo (L : List Int) (E : Int) (w : World) (e : Ending) (w' : World) : Prop := ∃ p' c', e = .returned (.tuple #[.slice p' L.length c', .int .i64 E]) ∧ Byt w' p' L.length c' L ∧ Below w.heap.size w w'
theorem mulTo_nil (w : World) (E : Int) : MulTo [] E w (.returned (.tuple #[.slice none 0 0, .int .i64 E])) w := ⟨none, 0, rfl, Byt.nil _ _ _ (by decide), Below.refl _ _⟩

set_option maxHeartbeats 800000 in
theorem rmult_no (p q : Option Addr) (n1 n2 c d : Nat) (w : World) (h : n1 ≠ 32 ∨ n2 ≠ 32) :
    Calls Try.prog 8 #[.slice p n1 c, .slice q n2 d] w fun e w' => e = .returned (.tuple #[.slice none 0 0, .int .i64 2]) ∧ w' = w := by
  by_cases h1 : n1 = 32
  · subst h1
    have h2 : ((n2 : Int) != 32) = true := by simp; omega
    have h0 : (((32 : Nat) : Int) != 32) = false := rfl
    clear h
    go_enter Try.func8, Try.ntmps8
    go_wp2
    go_ret2
    exact ⟨rfl, rfl⟩
  · have h2 : ((n1 : Int) != 32) = true := by simp; omega
    clear h h1
    go_enter Try.func8, Try.ntmps8
    go_wp2
    go_ret2
    exact ⟨rfl, rfl⟩
theorem mult_to (p q : Option Addr) (n1 n2 c d : Nat) (s t : List Int) (w : World) (hs : Byt w p n1 c s) (ht : Byt w q n2 d t) :
    Calls Try.prog 7 #[.slice p n1 c, .slice q n2 d] w (MulTo (mulL n1 n2 s t) (mulE n1 n2) w) := by
  unfold mulL mulE
  by_cases h : n1 = 32 ∧ n2 = 32
  · rw [if_pos h, if_pos h]
    obtain ⟨rfl, rfl⟩ := h
    refine (mult_any p q c d s t w hs ht).mono ?_
    rintro e w' ⟨g, rfl, -, hw, hb⟩
    have hl := mulB_len s t
    exact ⟨some ⟨g, 0, none⟩, 32, by rw [hl], by rw [hl]; exact hw.byt32 hl (mulB_rng s t), hb⟩
  · rw [if_neg h, if_neg h]
    refine (mult_no p q n1 n2 c d w (by omega)).mono ?_
    rintro e w' ⟨rfl, rfl⟩
    exact mulTo_nil _ _
theorem rmult_to (p q : Option Addr) (n1 n2 c d : Nat) (s t : List Int) (w : World) (hs : Byt w p n1 c s) (ht : Byt w q n2 d t) :
    Calls Try.prog 8 #[.slice p n1 c, .slice q n2 d] w (MulTo (mulL n1 n2 s t) (mulE n1 n2) w) := by
  unfold mulL mulE
  by_cases h : n1 = 32 ∧ n2 = 32
  · rw [if_pos h, if_pos h]
    obtain ⟨rfl, rfl⟩ := h
    refine (rmult_any p q c d s t w hs ht).mono ?_
    rintro e w' ⟨p', c', rfl, hw, hb⟩
    have hl := mulB_len s t
    exact ⟨p', c', by rw [hl], by rw [hl]; exact hw.byt, hb⟩
  · rw [if_neg h, if_neg h]
    refine (rmult_no p q n1 n2 c d w (by omega)).mono ?_
    rintro e w' ⟨rfl, rfl⟩
    exact mulTo_nil _ _
theorem shared_to (p q : Option Addr) (c d : Nat) (s t : List Int) (w : World) (hs : Byt w p 32 c s) (ht : Byt w q 32 d t) :
    Calls Try.prog 10 #[.slice p 32 c, .slice q 32 d] w (MulTo (shaL s t) (shaE s t) w) := by
  unfold shaL shaE
  by_cases h : mulB s t = List.replicate 32 0
  · rw [if_pos h, if_pos h]
    refine (shared_zero p q c d s t w hs ht h).mono ?_
    rintro e w' ⟨rfl, hb⟩
    exact ⟨none, 0, rfl, Byt.nil _ _ _ (by decide), hb⟩
  · rw [if_neg h, if_neg h]
    refine (shared_some p q c d s t w hs ht h).mono ?_
    rintro e w' ⟨g, rfl, -, hw, hb⟩
    have hl := mulB_len s t
    exact ⟨some ⟨g, 0, none⟩, 32, by rw [hl], by rw [hl]; exact hw.byt32 hl (mulB_rng s t), hb⟩
/-- The sum of bytes. -/
def sumB (l : List Int) : Int := l.foldl (· + ·) 0
theorem sumB_snoc (l : List Int) (x : Int) : sumB (l ++ [x]) = sumB l + x := by simp [sumB]
theorem sumB_nn (l : List Int) (h : ∀ x ∈ l, 0 ≤ x ∧ x ≤ 255) (j : Nat) : 0 ≤ sumB (l.take j) ∧ sumB (l.take j) ≤ 255 * j := by
  induction j with
  | zero => simp [sumB]
  | succ j ih =>
    by_cases hj : j < l.length
    · rw [List.take_succ_eq_append_getElem hj, sumB_snoc]
      have := h l[j] (List.getElem_mem _)
      omega
    · rw [List.take_of_length_le (by omega)] at ih ⊢
      omega
theorem sumB_succ (l : List Int) (j : Nat) (hj : j < l.length) : sumB (l.take (j + 1)) = sumB (l.take j) + l.getD j 0 := by
  rw [List.take_succ_eq_append_getElem hj, sumB_snoc]
  simp [List.getD_eq_getElem?_getD, hj]
theorem sumB_zero (l : List Int) (h : ∀ x ∈ l, 0 ≤ x ∧ x ≤ 255) (j : Nat) (hj : j ≤ l.length) : sumB (l.take j) = 0 ↔ l.take j = List.replicate j 0 := by
  induction j with
  | zero => simp [sumB]
  | succ j ih =>
    have hlt : j < l.length := by omega
    have h1 := ih (by omega)
    have h2 := sumB_nn l h j
    have h3 := h l[j] (List.getElem_mem hlt)
    rw [List.take_succ_eq_append_getElem hlt, sumB_snoc, List.replicate_succ']
    constructor
    · intro he
      rw [h1.1 (by omega), show l[j] = 0 by omega]
    · intro he
      have := List.append_inj he (by simp; omega)
      rw [h1.2 this.1, show l[j] = 0 by simpa using this.2]
      rfl
set_option maxHeartbeats 1600000 in
theorem rshared_to (p q : Option Addr) (c d : Nat) (s t : List Int) (w : World) (hs : Byt w p 32 c s) (ht : Byt w q 32 d t) :
    Calls Try.prog 11 #[.slice p 32 c, .slice q 32 d] w (MulTo (shaL s t) (shaE s t) w) := by
  have HM := hidden (rmult_any p q c d s t w hs ht)
  have HR := hidden (mulB_rng s t)
  have HL := Is.mk (mulB_len s t)
  have HD : Is (shaL s t) (if mulB s t = List.replicate 32 0 then [] else mulB s t) := ⟨rfl⟩
  have HE : Is (shaE s t) (if mulB s t = List.replicate 32 0 then 13 else 0) := ⟨rfl⟩
  generalize mulB s t = B at *
  generalize shaL s t = L at *
  generalize shaE s t = E at *
  clear hs ht
  go_enter Try.func11, Try.ntmps11
  go_wp2_with (first
    | (go_at_call 8; (with_reducible refine (HM.out).mono ?_); rintro e1 w1 ⟨p', c', rfl, hb, hw⟩; have HY := hidden hb.byt; have HB := hidden hw; clear hb hw)
    | fail)
  go_loopw [8, 9] (fun a i wr => ∃ j : Nat, j ≤ 32 ∧ i = .int .i64 j ∧ a = .int .i64 (sumB (B.take j)) ∧ w1 = wr) (fun _ i _ => 32 - (intOf i).toNat)
  case atStart => exact ⟨0, by omega, rfl, by simp [sumB], rfl⟩
  case round =>
    obtain ⟨j, hj, rfl, rfl, rfl⟩ := hrel
    by_cases hlt : j < 32
    · obtain ⟨b, o, rfl, hc⟩ := HY.out.at_ (by omega)
      have hcj := hc j hlt
      have hn := sumB_nn B HR.out j
      have HS := Is.mk (sumB_succ B j (by rw [HL.eq]; exact hlt))
      have hg := rng_getD HR.out j
      generalize B.getD j 0 = x at *
      generalize sumB (B.take j) = y at *
      have b0 : (j : Int) < 32 := by omega
      clear hc
      go_wp2
      go_roundw
      case rel => exact ⟨j + 1, by omega, by go_num, by rw [HS.eq], by first | rfl | trivial⟩
      case measure => simp [intOf]; omega
    · have hje : j = 32 := by omega
      have hz := sumB_zero B HR.out 32 (by rw [HL.eq]; omega)
      rw [List.take_of_length_le (by rw [HL.eq]; omega)] at hz
      have e1 : sumB (B.take j) = sumB B := by rw [hje, List.take_of_length_le (by rw [HL.eq]; omega)]
      rw [e1]
      have hge : ¬ (j : Int) < 32 := by omega
      clear hje e1
      by_cases hb : B = List.replicate 32 0
      · have h0 : (sumB B == 0) = true := by rw [hz.2 hb]; rfl
        have HDE := HD.eq
        have HEE := HE.eq
        rw [if_pos hb] at HDE HEE
        subst HDE HEE
        clear hz hb HD HE
        go_wp2
        go_ret2
        exact ⟨none, 0, rfl, Byt.nil _ _ _ (by decide), HB.out⟩
      · have h0 : (sumB B == 0) = false := by
          rw [beq_eq_false_iff_ne]
          exact fun e => hb (hz.1 e)
        have HDE := HD.eq
        have HEE := HE.eq
        rw [if_neg hb] at HDE HEE
        subst HDE HEE
        clear hz hb HD HE
        go_wp2
        go_ret2
        exact ⟨p', c', by rw [HL.eq]; rfl, by rw [HL.eq]; exact HY.out, HB.out⟩
end Go.Proofs.Ytilnbmlbahflkaa
