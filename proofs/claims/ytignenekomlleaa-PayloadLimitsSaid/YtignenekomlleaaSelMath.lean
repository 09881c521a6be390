/-
  Plain mathematics, no program: selectors as sets of packets; their meet; who lies inside whom.
-/
import Derived.Test.YtignenekomlleaaNum
namespace Go.Proofs.Ytignenekomlleaa
open Go.RowKit
set_option linter.unusedVariables false

/-- An address: its family and its two halves. -/
structure Ad where
  f : Int
  h : Int
  l : Int
  deriving DecidableEq
/-- A selector. -/
structure Sl where
  p : Int
  a : Int
  b : Int
  lo : Ad
  hi : Ad
  deriving DecidableEq
def ltA (x y : Ad) : Bool := if x.f ≠ y.f then decide (x.f < y.f) else if x.h ≠ y.h then decide (x.h < y.h) else decide (x.l < y.l)
def validA (x : Ad) : Bool := decide (x.f = 6) || (decide (x.f = 4) && decide (x.h = 0) && decide (x.l < 4294967296))
/-- The numbers of an address fit its fields. -/
structure FitA (x : Ad) : Prop where
  f : -9223372036854775808 ≤ x.f ∧ x.f ≤ 9223372036854775807
  h : 0 ≤ x.h ∧ x.h ≤ 18446744073709551615
  l : 0 ≤ x.l ∧ x.l ≤ 18446744073709551615
structure FitS (x : Sl) : Prop where
  p : -9223372036854775808 ≤ x.p ∧ x.p ≤ 9223372036854775807
  a : -9223372036854775808 ≤ x.a ∧ x.a ≤ 9223372036854775807
  b : -9223372036854775808 ≤ x.b ∧ x.b ≤ 9223372036854775807
  lo : FitA x.lo
  hi : FitA x.hi
/-- One number that orders addresses. -/
def keyA (x : Ad) : Int := (x.f * 18446744073709551616 + x.h) * 18446744073709551616 + x.l
theorem key_lt {x y : Ad} (hx : FitA x) (hy : FitA y) : ltA x y = decide (keyA x < keyA y) := by
  obtain ⟨_, h1, l1⟩ := hx
  obtain ⟨_, h2, l2⟩ := hy
  unfold ltA keyA
  split
  · apply decide_eq_decide.2
    omega
  · split
    · apply decide_eq_decide.2
      omega
    · apply decide_eq_decide.2
      omega
theorem key_inj {x y : Ad} (hx : FitA x) (hy : FitA y) (h : keyA x = keyA y) : x = y := by
  obtain ⟨_, h1, l1⟩ := hx
  obtain ⟨_, h2, l2⟩ := hy
  unfold keyA at h
  have e1 : x.f = y.f := by omega
  have e2 : x.h = y.h := by omega
  have e3 : x.l = y.l := by omega
  cases x
  cases y
  simp_all

def portsOk (a b : Int) : Bool := (decide (a = 65535) && decide (b = 0)) || (decide (0 ≤ a) && decide (a ≤ b) && decide (b ≤ 65535))
/-- The first error of a selector: 15 a family, 5 a range. -/
def checkS (s : Sl) : Int :=
  if validA s.lo = false ∨ validA s.hi = false ∨ s.lo.f ≠ s.hi.f then 15
  else if ltA s.hi s.lo = true ∨ s.p < 0 ∨ s.p > 255 ∨ portsOk s.a s.b = false then 5 else 0
/-- The ports as a range in which the opaque port is -1. -/
def spanP (s : Sl) : Int × Int := if s.a = 65535 ∧ s.b = 0 then (-1, -1) else if s.a = 0 ∧ s.b = 65535 then (-1, 65535) else (s.a, s.b)
def fieldsP (lo hi : Int) : Int × Int := if hi = -1 then (65535, 0) else if lo = -1 then (0, 65535) else (lo, hi)
def withinA (x lo hi : Ad) : Bool := !ltA x lo && !ltA hi x
def hasS (s : Sl) (x : Ad) (p port : Int) : Bool := withinA x s.lo s.hi && (decide (s.p = 0) || decide (s.p = p)) && decide ((spanP s).1 ≤ port) && decide (port ≤ (spanP s).2)
def zeroA : Ad := ⟨0, 0, 0⟩
def zeroS : Sl := ⟨0, 0, 0, zeroA, zeroA⟩
def loM (a b : Sl) : Ad := if ltA a.lo b.lo = true then b.lo else a.lo
def hiM (a b : Sl) : Ad := if ltA b.hi a.hi = true then b.hi else a.hi
def prM (a b : Sl) : Int := if a.p = 0 then b.p else a.p
def loP (a b : Sl) : Int := max (spanP a).1 (spanP b).1
def hiP (a b : Sl) : Int := min (spanP a).2 (spanP b).2
/-- The packets that both have. -/
def meetS (a b : Sl) : Sl × Bool :=
  if ltA (hiM a b) (loM a b) = true ∨ (b.p ≠ 0 ∧ b.p ≠ prM a b) ∨ hiP a b < loP a b then (zeroS, false)
  else (⟨prM a b, (fieldsP (loP a b) (hiP a b)).1, (fieldsP (loP a b) (hiP a b)).2, loM a b, hiM a b⟩, true)
def insideS (a b : Sl) : Bool := (meetS a b).2 && decide ((meetS a b).1 = a)

/-- What a good selector is, in numbers. -/
structure GoodS (s : Sl) : Prop where
  flo : FitA s.lo
  fhi : FitA s.hi
  vlo : validA s.lo = true
  vhi : validA s.hi = true
  fam : s.lo.f = s.hi.f
  le : keyA s.lo ≤ keyA s.hi
  p : 0 ≤ s.p ∧ s.p ≤ 255
  q : (s.a = 65535 ∧ s.b = 0) ∨ (0 ≤ s.a ∧ s.a ≤ s.b ∧ s.b ≤ 65535)
theorem GoodS.check {s : Sl} (h : GoodS s) : checkS s = 0 := by
  unfold checkS
  rw [key_lt h.fhi h.flo, h.vlo, h.vhi]
  have h1 := h.le
  have h2 := h.p
  have h3 := h.q
  have hp : portsOk s.a s.b = true := by
    unfold portsOk
    simp
    omega
  rw [if_neg (by simp; exact h.fam), if_neg (by simp [hp]; omega)]
theorem good_of_check {s : Sl} (f : FitS s) (h : checkS s = 0) : GoodS s := by
  unfold checkS at h
  split at h
  · cases h
  rename_i h1
  split at h
  · cases h
  rename_i h2
  rw [key_lt f.hi f.lo] at h2
  have hp : portsOk s.a s.b = true := by
    cases hh : portsOk s.a s.b
    · exact absurd (Or.inr (Or.inr (Or.inr hh))) h2
    · rfl
  have hl : validA s.lo = true := by
    cases hh : validA s.lo
    · exact absurd (Or.inl hh) h1
    · rfl
  have hh : validA s.hi = true := by
    cases hh : validA s.hi
    · exact absurd (Or.inr (Or.inl hh)) h1
    · rfl
  have hf : s.lo.f = s.hi.f := by
    apply Classical.byContradiction
    intro k
    exact h1 (Or.inr (Or.inr k))
  unfold portsOk at hp
  simp only [Bool.or_eq_true, Bool.and_eq_true, decide_eq_true_eq] at hp h2
  exact ⟨f.lo, f.hi, hl, hh, hf, by omega, by omega, by omega⟩
theorem GoodS.fit {s : Sl} (h : GoodS s) : FitS s := by
  have h2 := h.p
  have h3 := h.q
  exact ⟨by omega, by omega, by omega, h.flo, h.fhi⟩

/-- A range of ports that a good selector has. -/
def OkP2 (l h : Int) : Prop := (l = -1 ∧ h = -1) ∨ (l = -1 ∧ h = 65535) ∨ (0 ≤ l ∧ l ≤ h ∧ h ≤ 65535 ∧ ¬ (l = 0 ∧ h = 65535))
theorem GoodS.span {s : Sl} (h : GoodS s) : OkP2 (spanP s).1 (spanP s).2 := by
  have h3 := h.q
  unfold spanP OkP2
  split
  · simp
  split
  · simp
  · simp only
    omega
theorem fields_span {l h : Int} (k : OkP2 l h) (s : Sl) (hs : (s.a, s.b) = fieldsP l h) : spanP s = (l, h) := by
  unfold OkP2 at k
  unfold fieldsP at hs
  unfold spanP
  rcases k with ⟨rfl, rfl⟩ | ⟨rfl, rfl⟩ | ⟨h1, h2, h3, h4⟩
  · simp at hs
    simp [hs]
  · simp at hs
    simp [hs]
  · rw [if_neg (by omega), if_neg (by omega)] at hs
    simp at hs
    obtain ⟨e1, e2⟩ := hs
    rw [e1, e2, if_neg (by omega), if_neg (by omega)]
theorem span_fields {s : Sl} (h : GoodS s) : fieldsP (spanP s).1 (spanP s).2 = (s.a, s.b) := by
  have h3 := h.q
  unfold spanP fieldsP
  by_cases e : s.a = 65535 ∧ s.b = 0
  · rw [if_pos e]
    simp [e]
  rw [if_neg e]
  by_cases e2 : s.a = 0 ∧ s.b = 65535
  · rw [if_pos e2]
    simp [e2]
  rw [if_neg e2]
  simp only
  rw [if_neg (by omega), if_neg (by omega)]
theorem ok_meet {l h l' h' : Int} (k : OkP2 l h) (k' : OkP2 l' h') (hl : max l l' ≤ min h h') : OkP2 (max l l') (min h h') := by
  unfold OkP2 at *
  omega

/-- What a meet is, in numbers: c is the meet of a and b. -/
structure MeetS (a b c : Sl) : Prop where
  p : c.p = prM a b
  pb : b.p = 0 ∨ b.p = prM a b
  lo : keyA c.lo = max (keyA a.lo) (keyA b.lo)
  hi : keyA c.hi = min (keyA a.hi) (keyA b.hi)
  slo : c.lo = a.lo ∨ c.lo = b.lo
  shi : c.hi = a.hi ∨ c.hi = b.hi
  le : keyA c.lo ≤ keyA c.hi
  q1 : (spanP c).1 = max (spanP a).1 (spanP b).1
  q2 : (spanP c).2 = min (spanP a).2 (spanP b).2
  ok : OkP2 (spanP c).1 (spanP c).2
  fld : fieldsP (spanP c).1 (spanP c).2 = (c.a, c.b)
/-- Whether two selectors meet, in numbers. -/
def canMeet (a b : Sl) : Prop := max (keyA a.lo) (keyA b.lo) ≤ min (keyA a.hi) (keyA b.hi) ∧ (b.p = 0 ∨ b.p = prM a b) ∧ max (spanP a).1 (spanP b).1 ≤ min (spanP a).2 (spanP b).2
theorem lo_key {a b : Sl} (ha : GoodS a) (hb : GoodS b) : keyA (loM a b) = max (keyA a.lo) (keyA b.lo) := by
  unfold loM
  rw [key_lt ha.flo hb.flo]
  split
  · rename_i h; simp at h; omega
  · rename_i h; simp at h; omega
theorem hi_key {a b : Sl} (ha : GoodS a) (hb : GoodS b) : keyA (hiM a b) = min (keyA a.hi) (keyA b.hi) := by
  unfold hiM
  rw [key_lt hb.fhi ha.fhi]
  split
  · rename_i h; simp at h; omega
  · rename_i h; simp at h; omega
theorem lo_or (a b : Sl) : loM a b = a.lo ∨ loM a b = b.lo := by
  unfold loM
  split <;> simp
theorem hi_or (a b : Sl) : hiM a b = a.hi ∨ hiM a b = b.hi := by
  unfold hiM
  split <;> simp
theorem lo_fit {a b : Sl} (ha : GoodS a) (hb : GoodS b) : FitA (loM a b) := by rcases lo_or a b with h | h <;> rw [h]; exact ha.flo; exact hb.flo
theorem hi_fit {a b : Sl} (ha : GoodS a) (hb : GoodS b) : FitA (hiM a b) := by rcases hi_or a b with h | h <;> rw [h]; exact ha.fhi; exact hb.fhi
theorem meet_no {a b : Sl} (ha : GoodS a) (hb : GoodS b) (h : ¬ canMeet a b) : meetS a b = (zeroS, false) := by
  unfold meetS
  rw [key_lt (hi_fit ha hb) (lo_fit ha hb), lo_key ha hb, hi_key ha hb]
  unfold canMeet at h
  rw [if_pos]
  unfold loP hiP
  simp only [decide_eq_true_eq]
  omega
theorem meet_yes {a b : Sl} (ha : GoodS a) (hb : GoodS b) (h : canMeet a b) : ∃ c, meetS a b = (c, true) ∧ MeetS a b c := by
  unfold meetS
  rw [key_lt (hi_fit ha hb) (lo_fit ha hb), lo_key ha hb, hi_key ha hb]
  have h' := h
  unfold canMeet at h
  rw [if_neg (by unfold loP hiP; simp only [decide_eq_true_eq]; omega)]
  have hk := ok_meet ha.span hb.span h.2.2
  have hs := fields_span hk (⟨prM a b, (fieldsP (loP a b) (hiP a b)).1, (fieldsP (loP a b) (hiP a b)).2, loM a b, hiM a b⟩ : Sl) rfl
  refine ⟨_, rfl, rfl, h.2.1, lo_key ha hb, hi_key ha hb, lo_or a b, hi_or a b, ?_, ?_, ?_, ?_, ?_⟩
  · simp only
    rw [lo_key ha hb, hi_key ha hb]
    exact h.1
  · rw [hs]
  · rw [hs]
  · rw [hs]
    exact hk
  · rw [hs]
    rfl
theorem MeetS.good {a b c : Sl} (ha : GoodS a) (hb : GoodS b) (hf : a.lo.f = b.lo.f) (h : MeetS a b c) : GoodS c := by
  have hq := h.ok
  have hfl := h.fld
  have e1 := ha.fam
  have e2 := hb.fam
  refine ⟨?_, ?_, ?_, ?_, ?_, h.le, ?_, ?_⟩
  · rcases h.slo with e | e <;> rw [e]; exact ha.flo; exact hb.flo
  · rcases h.shi with e | e <;> rw [e]; exact ha.fhi; exact hb.fhi
  · rcases h.slo with e | e <;> rw [e]; exact ha.vlo; exact hb.vlo
  · rcases h.shi with e | e <;> rw [e]; exact ha.vhi; exact hb.vhi
  · rcases h.slo with e | e <;> rcases h.shi with e' | e' <;> rw [e, e'] <;> omega
  · rw [h.p]
    unfold prM
    split
    · exact hb.p
    · exact ha.p
  · unfold OkP2 at hq
    unfold fieldsP at hfl
    split at hfl
    · simp at hfl; omega
    split at hfl
    · simp at hfl; omega
    · simp at hfl; omega
/-- Selectors with the same numbers are the same. -/
theorem sl_ext {a b : Sl} (ha : GoodS a) (hb : GoodS b) (hp : a.p = b.p) (hlo : keyA a.lo = keyA b.lo) (hhi : keyA a.hi = keyA b.hi) (h1 : (spanP a).1 = (spanP b).1) (h2 : (spanP a).2 = (spanP b).2) : a = b := by
  have e1 := key_inj ha.flo hb.flo hlo
  have e2 := key_inj ha.fhi hb.fhi hhi
  have f1 := span_fields ha
  have f2 := span_fields hb
  rw [h1, h2, f2] at f1
  simp at f1
  cases a
  cases b
  simp_all
theorem has_key {s : Sl} (h : GoodS s) {x : Ad} (hx : FitA x) (p port : Int) : hasS s x p port = decide (keyA s.lo ≤ keyA x ∧ keyA x ≤ keyA s.hi ∧ (s.p = 0 ∨ s.p = p) ∧ (spanP s).1 ≤ port ∧ port ≤ (spanP s).2) := by
  unfold hasS withinA
  rw [key_lt hx h.flo, key_lt h.fhi hx]
  rw [Bool.eq_iff_iff]
  simp
  omega
theorem inside_self {a : Sl} (ha : GoodS a) : meetS a a = (a, true) := by
  have hc : canMeet a a := by
    have := ha.le
    have h2 := ha.span
    unfold canMeet prM
    unfold OkP2 at h2
    refine ⟨by omega, ?_, by omega⟩
    split <;> omega
  obtain ⟨c, h1, h2⟩ := meet_yes ha ha hc
  rw [h1, sl_ext (h2.good ha ha rfl) ha (by rw [h2.p]; unfold prM; split <;> rfl) (by have := h2.lo; omega) (by have := h2.hi; omega) (by have := h2.q1; omega) (by have := h2.q2; omega)]
theorem insideS_self {a : Sl} (ha : GoodS a) : insideS a a = true := by
  unfold insideS
  rw [inside_self ha]
  simp
theorem prM_comm {a b : Sl} (h : b.p = 0 ∨ b.p = prM a b) : prM a b = prM b a ∧ (a.p = 0 ∨ a.p = prM b a) := by
  unfold prM at *
  split at h <;> split <;> omega
theorem can_comm {a b : Sl} (h : canMeet a b) : canMeet b a := by
  unfold canMeet at *
  have := (prM_comm h.2.1).2
  omega
theorem meet_comm {a b : Sl} (ha : GoodS a) (hb : GoodS b) (hf : a.lo.f = b.lo.f) : meetS a b = meetS b a := by
  by_cases h : canMeet a b
  · obtain ⟨c, h1, h2⟩ := meet_yes ha hb h
    obtain ⟨d, k1, k2⟩ := meet_yes hb ha (can_comm h)
    rw [h1, k1, sl_ext (h2.good ha hb hf) (k2.good hb ha hf.symm) (by rw [h2.p, k2.p, (prM_comm h2.pb).1]) (by have := h2.lo; have := k2.lo; omega) (by have := h2.hi; have := k2.hi; omega) (by have := h2.q1; have := k2.q1; omega) (by have := h2.q2; have := k2.q2; omega)]
  · rw [meet_no ha hb h, meet_no hb ha (fun k => h (can_comm k))]
theorem insideS_of {a b : Sl} (ha : GoodS a) (hb : GoodS b) (hf : a.lo.f = b.lo.f) (h : insideS a b = true) : canMeet a b ∧ keyA b.lo ≤ keyA a.lo ∧ keyA a.hi ≤ keyA b.hi ∧ (spanP b).1 ≤ (spanP a).1 ∧ (spanP a).2 ≤ (spanP b).2 ∧ (b.p = 0 ∨ b.p = a.p) := by
  unfold insideS at h
  by_cases hc : canMeet a b
  · obtain ⟨c, h1, h2⟩ := meet_yes ha hb hc
    rw [h1] at h
    simp at h
    subst h
    have k1 := h2.lo
    have k2 := h2.hi
    have k3 := h2.q1
    have k4 := h2.q2
    have k5 := h2.p
    have k6 := h2.pb
    refine ⟨hc, by omega, by omega, by omega, by omega, by omega⟩
  · rw [meet_no ha hb hc] at h
    simp at h
theorem inside_meet {a b c : Sl} (ha : GoodS a) (hb : GoodS b) (hf : a.lo.f = b.lo.f) (h : MeetS a b c) : insideS c a = true ∧ insideS c b = true := by
  have hc := h.good ha hb hf
  have k1 := h.lo
  have k2 := h.hi
  have k3 := h.q1
  have k4 := h.q2
  have k5 := h.p
  have k6 := h.pb
  have k7 := h.le
  have k8 := h.ok
  have hfc : c.lo.f = a.lo.f := by rcases h.slo with e | e <;> rw [e]; exact hf.symm
  have key : ∀ {d : Sl}, GoodS d → c.lo.f = d.lo.f → keyA d.lo ≤ keyA c.lo → keyA c.hi ≤ keyA d.hi → (spanP d).1 ≤ (spanP c).1 → (spanP c).2 ≤ (spanP d).2 → (d.p = 0 ∨ d.p = c.p) → insideS c d = true := by
    intro d hd hfd g1 g2 g3 g4 g5
    have hcan : canMeet c d := by
      unfold canMeet prM
      unfold OkP2 at k8
      refine ⟨by omega, by split <;> omega, by omega⟩
    obtain ⟨e, h1, h2⟩ := meet_yes hc hd hcan
    unfold insideS
    rw [h1, sl_ext (h2.good hc hd hfd) hc (by rw [h2.p]; unfold prM; split <;> omega) (by have := h2.lo; omega) (by have := h2.hi; omega) (by have := h2.q1; omega) (by have := h2.q2; omega)]
    simp
  refine ⟨key ha hfc (by omega) (by omega) (by omega) (by omega) ?_, key hb (hfc.trans hf) (by omega) (by omega) (by omega) (by omega) ?_⟩
  · rw [k5]
    unfold prM
    split <;> omega
  · rw [k5]
    omega
theorem has_meet {a b : Sl} (ha : GoodS a) (hb : GoodS b) (hf : a.lo.f = b.lo.f) {x : Ad} (hx : FitA x) (p port : Int) :
    (hasS a x p port && hasS b x p port) = ((meetS a b).2 && hasS (meetS a b).1 x p port) := by
  by_cases hc : canMeet a b
  · obtain ⟨c, h1, h2⟩ := meet_yes ha hb hc
    have g := h2.good ha hb hf
    rw [h1]
    simp only
    rw [has_key ha hx, has_key hb hx, has_key g hx, Bool.eq_iff_iff]
    have k1 := h2.lo
    have k2 := h2.hi
    have k3 := h2.q1
    have k4 := h2.q2
    have k5 := h2.p
    have k6 := h2.pb
    unfold prM at k5 k6
    simp only [Bool.and_eq_true, decide_eq_true_eq, true_and]
    split at k5 <;> constructor <;> intro <;> refine ⟨?_, ?_⟩ <;> omega
  · rw [meet_no ha hb hc, has_key ha hx, has_key hb hx]
    simp only [Bool.false_and]
    rw [Bool.eq_false_iff]
    simp only [ne_eq, Bool.and_eq_true, decide_eq_true_eq]
    rintro ⟨k1, k2⟩
    apply hc
    unfold canMeet prM
    refine ⟨by omega, by split <;> omega, by omega⟩
theorem inside_has {a b : Sl} (ha : GoodS a) (hb : GoodS b) (hf : a.lo.f = b.lo.f) (h : insideS a b = true) {x : Ad} (hx : FitA x) (p port : Int) (hi : hasS a x p port = true) : hasS b x p port = true := by
  obtain ⟨_, h1, h2, h3, h4, h5⟩ := insideS_of ha hb hf h
  rw [has_key ha hx] at hi
  rw [has_key hb hx]
  simp only [decide_eq_true_eq] at *
  omega
def pm (a b : Int) : Int := if a = 0 then b else a
theorem pm_assoc (a b d : Int) (h1 : b = 0 ∨ b = pm a b) (h2 : d = 0 ∨ d = pm b d) : pm (pm a b) d = pm a (pm b d) ∧ ((d = 0 ∨ d = pm (pm a b) d) ↔ (pm b d = 0 ∨ pm b d = pm a (pm b d))) := by
  unfold pm at *
  by_cases ha : a = 0 <;> by_cases hb : b = 0 <;> by_cases hd : d = 0 <;> simp_all
theorem pm_left (a b d : Int) (h1 : b = 0 ∨ b = pm a b) (h : d = 0 ∨ d = pm (pm a b) d) : d = 0 ∨ d = pm b d := by
  unfold pm at *
  by_cases ha : a = 0 <;> by_cases hb : b = 0 <;> by_cases hd : d = 0 <;> simp_all
theorem pm_right (a b d : Int) (h1 : d = 0 ∨ d = pm b d) (h : pm b d = 0 ∨ pm b d = pm a (pm b d)) : b = 0 ∨ b = pm a b := by
  unfold pm at *
  by_cases ha : a = 0 <;> by_cases hb : b = 0 <;> by_cases hd : d = 0 <;> simp_all
theorem prM_pm (a b : Sl) : prM a b = pm a.p b.p := rfl
theorem can_left {a b d x : Sl} (x1 : MeetS a b x) (h : canMeet x d) : canMeet b d := by
  have a1 := x1.lo
  have a2 := x1.hi
  have a3 := x1.q1
  have a4 := x1.q2
  have a5 := x1.p
  have a6 := x1.pb
  rw [prM_pm] at a5 a6
  obtain ⟨h1, h2, h3⟩ := h
  rw [prM_pm, a5] at h2
  exact ⟨by omega, pm_left a.p b.p d.p a6 h2, by omega⟩
theorem can_right {a b d y : Sl} (y1 : MeetS b d y) (h : canMeet a y) : canMeet a b := by
  have b1 := y1.lo
  have b2 := y1.hi
  have b3 := y1.q1
  have b4 := y1.q2
  have b5 := y1.p
  have b6 := y1.pb
  rw [prM_pm] at b5 b6
  obtain ⟨h1, h2, h3⟩ := h
  rw [prM_pm, b5] at h2
  exact ⟨by omega, pm_right a.p b.p d.p b6 h2, by omega⟩
/-- The meet of three, either way. -/
theorem meet_assoc {a b d : Sl} (ha : GoodS a) (hb : GoodS b) (hd : GoodS d) (h1 : a.lo.f = b.lo.f) (h2 : b.lo.f = d.lo.f) :
    (if (meetS a b).2 = true then meetS (meetS a b).1 d else (zeroS, false)) = (if (meetS b d).2 = true then meetS a (meetS b d).1 else (zeroS, false)) := by
  have fam : ∀ {u v c : Sl}, MeetS u v c → u.lo.f = v.lo.f → c.lo.f = u.lo.f := fun h e => by rcases h.slo with k | k <;> rw [k]; exact e.symm
  by_cases hab : canMeet a b
  · obtain ⟨x, e1, x1⟩ := meet_yes ha hb hab
    have gx := x1.good ha hb h1
    have fx := fam x1 h1
    rw [e1]
    simp only [if_true]
    by_cases hbd : canMeet b d
    · obtain ⟨y, e2, y1⟩ := meet_yes hb hd hbd
      have gy := y1.good hb hd h2
      have fy := fam y1 h2
      rw [e2]
      simp only [if_true]
      have a1 := x1.lo
      have a2 := x1.hi
      have a3 := x1.q1
      have a4 := x1.q2
      have a5 := x1.p
      have a6 := x1.pb
      have b1 := y1.lo
      have b2 := y1.hi
      have b3 := y1.q1
      have b4 := y1.q2
      have b5 := y1.p
      have b6 := y1.pb
      have hiff : canMeet x d ↔ canMeet a y := by
        rw [prM_pm] at a5 a6 b5 b6
        have hp := (pm_assoc a.p b.p d.p a6 b6).2
        unfold canMeet
        rw [prM_pm, prM_pm, a1, a2, a3, a4, a5, b1, b2, b3, b4, b5, hp]
        simp only [Int.max_assoc, Int.min_assoc]
      by_cases hxd : canMeet x d
      · obtain ⟨u, e3, u1⟩ := meet_yes gx hd hxd
        obtain ⟨v, e4, v1⟩ := meet_yes ha gy (hiff.1 hxd)
        rw [e3, e4]
        have c1 := u1.lo
        have c2 := u1.hi
        have c3 := u1.q1
        have c4 := u1.q2
        have d1 := v1.lo
        have d2 := v1.hi
        have d3 := v1.q1
        have d4 := v1.q2
        rw [sl_ext (u1.good gx hd (by omega)) (v1.good ha gy (by omega)) (by
          rw [prM_pm] at a5 a6 b5 b6
          rw [u1.p, v1.p, prM_pm, prM_pm, a5, b5]
          exact (pm_assoc a.p b.p d.p a6 b6).1) (by rw [c1, d1, a1, b1, Int.max_assoc]) (by rw [c2, d2, a2, b2, Int.min_assoc]) (by rw [c3, d3, a3, b3, Int.max_assoc]) (by rw [c4, d4, a4, b4, Int.min_assoc])]
      · rw [meet_no gx hd hxd, meet_no ha gy (fun h => hxd (hiff.2 h))]
    · rw [meet_no hb hd hbd]
      simp only
      rw [meet_no gx hd (fun h => hbd (can_left x1 h))]
      simp
  · rw [meet_no ha hb hab]
    simp only
    by_cases hbd : canMeet b d
    · obtain ⟨y, e2, y1⟩ := meet_yes hb hd hbd
      have gy := y1.good hb hd h2
      rw [e2]
      simp only [if_true]
      rw [meet_no ha gy (fun h => hab (can_right y1 h))]
      simp
    · rw [meet_no hb hd hbd]
      simp
end Go.Proofs.Ytignenekomlleaa
