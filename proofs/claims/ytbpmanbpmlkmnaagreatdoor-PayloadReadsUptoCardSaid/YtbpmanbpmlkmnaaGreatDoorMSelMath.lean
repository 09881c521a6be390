/-
  Plain mathematics, no program: selectors as sets of packets; their meet; who lies inside whom.
-/
import Derived.Test.YtbpmanbpmlkmnaaGreatDoorMNum
namespace Go.Proofs.YtbpmanbpmlkmnaaGreatDoor
open Go.RowKit
set_option linter.unusedVariables false

/-- An address: its family and its two halves. -/
structure Ad where
  f : Int
  h : Int
  l : Int
  deriving DecidableEq
/-- A selector. -/
structure Sl where
  p : Int
  a : Int
  b : Int
  lo : Ad
  hi : Ad
  deriving DecidableEq
def ltA (x y : Ad) : Bool := if x.f ≠ y.f then decide (x.f < y.f) else if x.h ≠ y.h then decide (x.h < y.h) else decide (x.l < y.l)
def validA (x : Ad) : Bool := decide (x.f = 6) || (decide (x.f = 4) && decide (x.h = 0) && decide (x.l < 4294967296))
/-- The numbers of an address fit its fields. -/
structure FitA (x : Ad) : Prop where
  f : -9223372036854775808 ≤ x.f ∧ x.f ≤ 9223372036854775807
  h : 0 ≤ x.h ∧ x.h ≤ 18446744073709551615
  l : 0 ≤ x.l ∧ x.l ≤ 18446744073709551615
structure FitS (x : Sl) : Prop where
  p : -9223372036854775808 ≤ x.p ∧ x.p ≤ 9223372036854775807
  a : -9223372036854775808 ≤ x.a ∧ x.a ≤ 9223372036854775807
  b : -9223372036854775808 ≤ x.b ∧ x.b ≤ 9223372036854775807
  lo : FitA x.lo
  hi : FitA x.hi
/-- One number that orders addresses. -/
def keyA (x : Ad) : Int := (x.f * 18446744073709551616 + x.h) * 18446744073709551616 + x.l
theorem key_lt {x y : Ad} (hx : FitA x) (hy : FitA y) : ltA x y = decide (keyA x < keyA y) := by
  obtain ⟨_, h1, l1⟩ := hx
  obtain ⟨_, h2, l2⟩ := hy
  unfold ltA keyA
  split
  · apply decide_eq_decide.2
    omega
  · split
    · apply decide_eq_decide.2
      omega
    · apply decide_eq_decide.2
      omega
def portsOk (a b : Int) : Bool := (decide (a = 65535) && decide (b = 0)) || (decide (0 ≤ a) && decide (a ≤ b) && decide (b ≤ 65535))
/-- The first error of a selector: 15 a family, 5 a range. -/
def checkS (s : Sl) : Int :=
  if validA s.lo = false ∨ validA s.hi = false ∨ s.lo.f ≠ s.hi.f then 15
  else if ltA s.hi s.lo = true ∨ s.p < 0 ∨ s.p > 255 ∨ portsOk s.a s.b = false then 5 else 0
/-- The ports as a range in which the opaque port is -1. -/
def spanP (s : Sl) : Int × Int := if s.a = 65535 ∧ s.b = 0 then (-1, -1) else if s.a = 0 ∧ s.b = 65535 then (-1, 65535) else (s.a, s.b)
def fieldsP (lo hi : Int) : Int × Int := if hi = -1 then (65535, 0) else if lo = -1 then (0, 65535) else (lo, hi)
def withinA (x lo hi : Ad) : Bool := !ltA x lo && !ltA hi x
def hasS (s : Sl) (x : Ad) (p port : Int) : Bool := withinA x s.lo s.hi && (decide (s.p = 0) || decide (s.p = p)) && decide ((spanP s).1 ≤ port) && decide (port ≤ (spanP s).2)
def zeroA : Ad := ⟨0, 0, 0⟩
def zeroS : Sl := ⟨0, 0, 0, zeroA, zeroA⟩
def loM (a b : Sl) : Ad := if ltA a.lo b.lo = true then b.lo else a.lo
def hiM (a b : Sl) : Ad := if ltA b.hi a.hi = true then b.hi else a.hi
def prM (a b : Sl) : Int := if a.p = 0 then b.p else a.p
def loP (a b : Sl) : Int := max (spanP a).1 (spanP b).1
def hiP (a b : Sl) : Int := min (spanP a).2 (spanP b).2
/-- The packets that both have. -/
def meetS (a b : Sl) : Sl × Bool :=
  if ltA (hiM a b) (loM a b) = true ∨ (b.p ≠ 0 ∧ b.p ≠ prM a b) ∨ hiP a b < loP a b then (zeroS, false)
  else (⟨prM a b, (fieldsP (loP a b) (hiP a b)).1, (fieldsP (loP a b) (hiP a b)).2, loM a b, hiM a b⟩, true)
def insideS (a b : Sl) : Bool := (meetS a b).2 && decide ((meetS a b).1 = a)

/-- What a good selector is, in numbers. -/
structure GoodS (s : Sl) : Prop where
  flo : FitA s.lo
  fhi : FitA s.hi
  vlo : validA s.lo = true
  vhi : validA s.hi = true
  fam : s.lo.f = s.hi.f
  le : keyA s.lo ≤ keyA s.hi
  p : 0 ≤ s.p ∧ s.p ≤ 255
  q : (s.a = 65535 ∧ s.b = 0) ∨ (0 ≤ s.a ∧ s.a ≤ s.b ∧ s.b ≤ 65535)
theorem GoodS.check {s : Sl} (h : GoodS s) : checkS s = 0 := by
  unfold checkS
  rw [key_lt h.fhi h.flo, h.vlo, h.vhi]
  have h1 := h.le
  have h2 := h.p
  have h3 := h.q
  have hp : portsOk s.a s.b = true := by
    unfold portsOk
    simp
    omega
  rw [if_neg (by simp; exact h.fam), if_neg (by simp [hp]; omega)]
theorem good_of_check {s : Sl} (f : FitS s) (h : checkS s = 0) : GoodS s := by
  unfold checkS at h
  split at h
  · cases h
  rename_i h1
  split at h
  · cases h
  rename_i h2
  rw [key_lt f.hi f.lo] at h2
  have hp : portsOk s.a s.b = true := by
    cases hh : portsOk s.a s.b
    · exact absurd (Or.inr (Or.inr (Or.inr hh))) h2
    · rfl
  have hl : validA s.lo = true := by
    cases hh : validA s.lo
    · exact absurd (Or.inl hh) h1
    · rfl
  have hh : validA s.hi = true := by
    cases hh : validA s.hi
    · exact absurd (Or.inr (Or.inl hh)) h1
    · rfl
  have hf : s.lo.f = s.hi.f := by
    apply Classical.byContradiction
    intro k
    exact h1 (Or.inr (Or.inr k))
  unfold portsOk at hp
  simp only [Bool.or_eq_true, Bool.and_eq_true, decide_eq_true_eq] at hp h2
  exact ⟨f.lo, f.hi, hl, hh, hf, by omega, by omega, by omega⟩
theorem GoodS.fit {s : Sl} (h : GoodS s) : FitS s := by
  have h2 := h.p
  have h3 := h.q
  exact ⟨by omega, by omega, by omega, h.flo, h.fhi⟩

/-- A range of ports that a good selector has. -/
def OkP2 (l h : Int) : Prop := (l = -1 ∧ h = -1) ∨ (l = -1 ∧ h = 65535) ∨ (0 ≤ l ∧ l ≤ h ∧ h ≤ 65535 ∧ ¬ (l = 0 ∧ h = 65535))
/-- What a meet is, in numbers: c is the meet of a and b. -/
structure MeetS (a b c : Sl) : Prop where
  p : c.p = prM a b
  pb : b.p = 0 ∨ b.p = prM a b
  lo : keyA c.lo = max (keyA a.lo) (keyA b.lo)
  hi : keyA c.hi = min (keyA a.hi) (keyA b.hi)
  slo : c.lo = a.lo ∨ c.lo = b.lo
  shi : c.hi = a.hi ∨ c.hi = b.hi
  le : keyA c.lo ≤ keyA c.hi
  q1 : (spanP c).1 = max (spanP a).1 (spanP b).1
  q2 : (spanP c).2 = min (spanP a).2 (spanP b).2
  ok : OkP2 (spanP c).1 (spanP c).2
  fld : fieldsP (spanP c).1 (spanP c).2 = (c.a, c.b)
/-- Whether two selectors meet, in numbers. -/
def canMeet (a b : Sl) : Prop := max (keyA a.lo) (keyA b.lo) ≤ min (keyA a.hi) (keyA b.hi) ∧ (b.p = 0 ∨ b.p = prM a b) ∧ max (spanP a).1 (spanP b).1 ≤ min (spanP a).2 (spanP b).2
theorem MeetS.good {a b c : Sl} (ha : GoodS a) (hb : GoodS b) (hf : a.lo.f = b.lo.f) (h : MeetS a b c) : GoodS c := by
  have hq := h.ok
  have hfl := h.fld
  have e1 := ha.fam
  have e2 := hb.fam
  refine ⟨?_, ?_, ?_, ?_, ?_, h.le, ?_, ?_⟩
  · rcases h.slo with e | e <;> rw [e]; exact ha.flo; exact hb.flo
  · rcases h.shi with e | e <;> rw [e]; exact ha.fhi; exact hb.fhi
  · rcases h.slo with e | e <;> rw [e]; exact ha.vlo; exact hb.vlo
  · rcases h.shi with e | e <;> rw [e]; exact ha.vhi; exact hb.vhi
  · rcases h.slo with e | e <;> rcases h.shi with e' | e' <;> rw [e, e'] <;> omega
  · rw [h.p]
    unfold prM
    split
    · exact hb.p
    · exact ha.p
  · unfold OkP2 at hq
    unfold fieldsP at hfl
    split at hfl
    · simp at hfl; omega
    split at hfl
    · simp at hfl; omega
    · simp at hfl; omega
def pm (a b : Int) : Int := if a = 0 then b else a
end Go.Proofs.YtbpmanbpmlkmnaaGreatDoor
