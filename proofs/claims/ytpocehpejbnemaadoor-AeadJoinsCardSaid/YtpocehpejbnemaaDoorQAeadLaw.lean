/-
  What the laws of chapter 12 use: what Seal and Open return, told as slices that read; a changed tag.
-/
import Derived.Test.YtpocehpejbnemaaDoorQAead12
import Derived.Test.YtpocehpejbnemaaDoorQRAeadSeal
import Derived.Test.YtpocehpejbnemaaDoorQChaKey
namespace Go.Proofs.YtpocehpejbnemaaDoor
open Go.RowKit
set_option linter.unusedVariables false

/-- A slice of bytes and an error are returned. -/
def ToBE (R : List Int) (E : Int) (N : Nat) (w : World) (e : Ending) (w' : World) : Prop :=
  ∃ p' c', e = .returned (.tuple #[.slice p' N c', .int .i64 E]) ∧ Byt w' p' N c' R ∧ Below w.heap.size w w'
/-- A slice of bytes and a flag are returned. -/
def ToBB (R : List Int) (E : Bool) (N : Nat) (w : World) (e : Ending) (w' : World) : Prop :=
  ∃ p' c', e = .returned (.tuple #[.slice p' N c', .bool E]) ∧ Byt w' p' N c' R ∧ Below w.heap.size w w'

theorem new_at (W : World) (p : Option Addr) (n c : Nat) (xs : List Int) (w : World) (h : Byt W p n c xs) (hb : Below W.heap.size W w) (m : Nat) (hm : m ≤ 9223372036854775807) (z : Int) (hz : z = (m : Int)) :
    Calls Tryd.prog 9 #[.slice p n c, .int .i64 z] w fun e w' => e = .returned (.pointer (some ⟨w.heap.size, 0, none⟩)) ∧ Cod W w' w.heap.size ∧ Below w.heap.size w w' := by
  subst hz
  exact new_any W p n c xs w h hb m hm
/-- What Seal returns for any key and nonce. -/
def sealAny (k l : Nat) (key nonce data plain : List Int) : List Int := if k = 32 ∧ l = 12 then sealA key nonce data plain else []
def sealErr (k l : Nat) : Int := if k = 32 ∧ l = 12 then 0 else 13
def tagAny (k l : Nat) (key nonce data plain : List Int) : List Int := if k = 32 ∧ l = 12 then tagA key nonce data plain else []
theorem sealAny_rng (k l : Nat) (key nonce data plain : List Int) : ∀ x ∈ sealAny k l key nonce data plain, 0 ≤ x ∧ x ≤ 255 := by
  unfold sealAny
  split
  · exact sealA_rng _ _ _ _
  · simp
theorem tagAny_rng (k l : Nat) (key nonce data plain : List Int) : ∀ x ∈ tagAny k l key nonce data plain, 0 ≤ x ∧ x ≤ 255 := by
  unfold tagAny
  split
  · exact tagA_rng _ _ _ _
  · simp
theorem Own.toBE {w w' : World} {v : Value} {R : List Int} {E : Int} (h : Own w' w.heap.size 5 v R) (hr : ∀ x ∈ R, 0 ≤ x ∧ x ≤ 255) (hb : Below w.heap.size w w') : ToBE R E R.length w (.returned (.tuple #[v, .int .i64 E])) w' := by
  obtain ⟨p, c, rfl, hy⟩ := h.byt hr
  exact ⟨p, c, rfl, hy, hb⟩
theorem Own.toBB {w w' : World} {v : Value} {R : List Int} {E : Bool} (h : Own w' w.heap.size 5 v R) (hr : ∀ x ∈ R, 0 ≤ x ∧ x ≤ 255) (hb : Below w.heap.size w w') : ToBB R E R.length w (.returned (.tuple #[v, .bool E])) w' := by
  obtain ⟨p, c, rfl, hy⟩ := h.byt hr
  exact ⟨p, c, rfl, hy, hb⟩
theorem nilBE (w : World) (E : Int) : ToBE [] E 0 w (.returned (.tuple #[.slice none 0 0, .int .i64 E])) w := ⟨none, 0, rfl, Byt.nil _ _ _ (by decide), Below.refl _ _⟩
theorem nilBB (w : World) (E : Bool) : ToBB [] E 0 w (.returned (.tuple #[.slice none 0 0, .bool E])) w := ⟨none, 0, rfl, Byt.nil _ _ _ (by decide), Below.refl _ _⟩
section
variable (p q r s : Option Addr) (k c l d n e m f : Nat) (key nonce data plain : List Int) (w : World) (h : Byt w p k c key) (h' : Byt w q l d nonce) (hr : Byt w r n e data) (hs : Byt w s m f plain) (hn : n ≤ 20000) (hm : m ≤ 20000)
include h h' hr hs hn hm
theorem seal_to (hQ : QAt w) : Calls Tryd.prog 17 #[.slice p k c, .slice q l d, .slice r n e, .slice s m f] w (ToBE (sealAny k l key nonce data plain) (sealErr k l) (sealAny k l key nonce data plain).length w) := by
  by_cases hf : k = 32 ∧ l = 12
  · obtain ⟨rfl, rfl⟩ := hf
    refine (seal_yes p q r s c d n e m f key nonce data plain w h h' hr hs (by omega) (by omega) hQ).mono ?_
    rintro en w' ⟨v, rfl, ho, hb⟩
    exact ho.toBE (sealA_rng _ _ _ _) hb
  · refine (seal_no p q r s k c l d n e m f w h.le h'.le hf).mono ?_
    rintro en w' ⟨rfl, rfl⟩
    unfold sealAny sealErr
    rw [if_neg hf, if_neg hf]
    exact nilBE _ _
theorem rseal_to : Calls Tryd.prog 18 #[.slice p k c, .slice q l d, .slice r n e, .slice s m f] w (ToBE (sealAny k l key nonce data plain) (sealErr k l) (sealAny k l key nonce data plain).length w) := by
  by_cases hf : k = 32 ∧ l = 12
  · obtain ⟨rfl, rfl⟩ := hf
    refine (rseal_yes p q r s c d n e m f key nonce data plain w h h' hr hs hn hm).mono ?_
    rintro en w' ⟨v, rfl, ho, hb⟩
    exact ho.toBE (sealA_rng _ _ _ _) hb
  · refine (rseal_no p q r s k c l d n e m f w h.le h'.le hf).mono ?_
    rintro en w' ⟨rfl, rfl⟩
    unfold sealAny sealErr
    rw [if_neg hf, if_neg hf]
    exact nilBE _ _
theorem tag_to (hQ : QAt w) : Calls Tryd.prog 19 #[.slice p k c, .slice q l d, .slice r n e, .slice s m f] w (ToBB (tagAny k l key nonce data plain) (decide (k = 32 ∧ l = 12)) (tagAny k l key nonce data plain).length w) := by
  by_cases hf : k = 32 ∧ l = 12
  · obtain ⟨rfl, rfl⟩ := hf
    refine (tag_yes p q r s c d n e m f key nonce data plain w h h' hr hs (by omega) (by omega) hQ).mono ?_
    rintro en w' ⟨v, rfl, ho, hb⟩
    exact ho.toBB (tagA_rng _ _ _ _) hb
  · refine (tag_no p q r s k c l d n e m f w h.le h'.le hf).mono ?_
    rintro en w' ⟨rfl, rfl⟩
    unfold tagAny
    rw [if_neg hf, decide_eq_false hf]
    exact nilBB _ _
theorem rtag_to : Calls Tryd.prog 20 #[.slice p k c, .slice q l d, .slice r n e, .slice s m f] w (ToBB (tagAny k l key nonce data plain) (decide (k = 32 ∧ l = 12)) (tagAny k l key nonce data plain).length w) := by
  by_cases hf : k = 32 ∧ l = 12
  · obtain ⟨rfl, rfl⟩ := hf
    refine (rtag_yes p q r s c d n e m f key nonce data plain w h h' hr hs hn hm).mono ?_
    rintro en w' ⟨v, rfl, ho, hb⟩
    exact ho.toBB (tagA_rng _ _ _ _) hb
  · refine (rtag_no p q r s k c l d n e m f w h.le h'.le hf).mono ?_
    rintro en w' ⟨rfl, rfl⟩
    unfold tagAny
    rw [if_neg hf, decide_eq_false hf]
    exact nilBB _ _
end
section
variable (p q r s : Option Addr) (c d n e m f : Nat) (key nonce data plain : List Int) (w : World) (h : Byt w p 32 c key) (h' : Byt w q 12 d nonce) (hr : Byt w r n e data) (hs : Byt w s m f plain) (hn : n ≤ 20000) (hm : m ≤ 20000)
include h h' hr hs hn hm
theorem open_to (hQ : QAt w) : Calls Tryd.prog 22 #[.slice p 32 c, .slice q 12 d, .slice r n e, .slice s m f] w (ToBE (openL key nonce data plain) (openE key nonce data plain) (openL key nonce data plain).length w) := by
  refine (open_yes p q r s c d n e m f key nonce data plain w h h' hr hs (by omega) (by omega) hQ).mono ?_
  rintro en w' ⟨v, rfl, ho, hb⟩
  exact ho.toBE (openL_rng _ _ _ _) hb
theorem ropen_to : Calls Tryd.prog 23 #[.slice p 32 c, .slice q 12 d, .slice r n e, .slice s m f] w (ToBE (openL key nonce data plain) (openE key nonce data plain) (openL key nonce data plain).length w) := by
  refine (ropen_yes p q r s c d n e m f key nonce data plain w h h' hr hs hn hm).mono ?_
  rintro en w' ⟨v, rfl, ho, hb⟩
  exact ho.toBE (openL_rng _ _ _ _) hb
end
/-- Sealed bytes with a changed byte of the tag are refused. -/
theorem open_changed (key nonce data b : List Int) (t : Nat) (ht : t < 16) (x m : Int) (hm : 1 ≤ m ∧ m ≤ 255) (hx : (sealA key nonce data b).getD (b.length + t) 0 = x) :
    openE key nonce data ((sealA key nonce data b).set (b.length + t) (bits .xor .u8 x m)) = 12 := by
  obtain ⟨X, hX⟩ : ∃ X, xorC key 1 nonce b = X := ⟨_, rfl⟩
  have hXl : X.length = b.length := by rw [← hX]; exact xorC_len _ _ _ _
  have hS : sealA key nonce data b = X ++ tagA key nonce data X := by rw [← hX]; rfl
  have hTl := tagA_len key nonce data X
  have hTr := tagA_rng key nonce data X
  rw [hS] at hx ⊢
  unfold openE
  have hl : ((X ++ tagA key nonce data X).set (b.length + t) (bits .xor .u8 x m)).length = b.length + 16 := by simp [hXl, hTl]
  rw [hl, if_neg (by omega), show b.length + 16 - 16 = X.length by omega]
  have hset : (X ++ tagA key nonce data X).set (b.length + t) (bits .xor .u8 x m) = X ++ (tagA key nonce data X).set t (bits .xor .u8 x m) := by
    rw [List.set_append, if_neg (by omega), show b.length + t - X.length = t by omega]
  rw [hset, List.take_left' rfl, List.drop_left' rfl]
  rw [List.getD_eq_getElem?_getD, List.getElem?_append_right (by omega), show b.length + t - X.length = t by omega, ← List.getD_eq_getElem?_getD] at hx
  generalize tagA key nonce data X = T at *
  have hxr : 0 ≤ x ∧ x ≤ 255 := by rw [← hx]; exact rng_getD hTr t
  rw [if_neg]
  intro he
  have h1 := congrArg (fun l => l.getD t 0) he
  simp only [List.getD_eq_getElem?_getD] at h1 hx
  rw [hx, List.getElem?_set_self (by omega), Option.getD_some] at h1
  exact xorb_ne x m hxr ⟨by omega, hm.2⟩ (by omega) h1.symm
end Go.Proofs.YtpocehpejbnemaaDoor
