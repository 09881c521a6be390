/-
  What the program knows of bytes, and a row of the call's own that was just made.
  A list of choices: its making.
  Bytes that lie in a block of bytes of the call's own: they stay while rows of other things, or blocks of before, are written.
  A list of choices: an int; ints that lie in a block; growing worlds.
  Plain mathematics, no program: selectors as sets of packets; their meet; who lies inside whom.
  Rows of structures of the call's own, whatever the program: elements of a fixed number of cells, with memory of their own behind them.
  Rows of transforms and of proposals in memory: what they are, how they stay, how they grow.
-/
import Derived.Test.YtkniifopfgeopaaGreatRows
import Derived.Test.YtkniifopfgeopaaGreatJZ0
namespace Go.Proofs.YtkniifopfgeopaaGreat
open Go.RowKit
set_option linter.unusedVariables false

theorem Tryz.infoByte : (Tryz.prog.info? 5).map (fun i => (i.zero, i.size, i.bytes)) = some (some (.int .u8 0), 1, 1) := by kernel_rfl
theorem Tryz.sizeByte : (Tryz.prog.info? 5).map (·.size) = some 1 := by kernel_rfl

theorem Own.made (w : World) (base : Nat) (e : TypeId) (hb : base ≤ w.heap.size) : Own (w.alloc (.cells #[] e)) base e (.slice (some ⟨w.heap.size, 0, none⟩) 0 0) [] :=
  World.ownsRow_made w #[] 0 hb (Nat.zero_le _) rfl
end Go.Proofs.YtkniifopfgeopaaGreat

namespace Go.Proofs.YtkniifopfgeopaaGreat
open Go.RowKit
set_option linter.unusedVariables false

theorem Cod.alloc {W w : World} {k : Nat} (h : Cod W w k) (o : Obj) : Cod W (w.alloc o) k := h.below ((Below.refl _ _).alloc (Nat.le_refl _) o)
/-- A store into another block of the call's own. -/
theorem Cod.set {W w : World} {k : Nat} (h : Cod W w k) (g j : Nat) (v : Value) (hg : W.heap.size ≤ g) (hne : g ≠ k) : Cod W (w.setCell ⟨g, j, none⟩ v) k :=
  h.grown (grown_set w g j v) (by simp; omega) (by simp; omega)

set_option maxHeartbeats 400000 in
theorem new_any (W : World) (p : Option Addr) (n c : Nat) (xs : List Int) (w : World) (h : Byt W p n c xs) (hb : Below W.heap.size W w) (m : Nat) (hm : m ≤ 9223372036854775807) :
    Calls Tryz.prog 8 #[.slice p n c, .int .i64 m] w fun e w' => e = .returned (.pointer (some ⟨w.heap.size, 0, none⟩)) ∧ Cod W w' w.heap.size ∧ Below w.heap.size w w' := by
  have hn := h.le
  have hcap := h.cap
  have hbig := h.big
  have hs := hb.size
  unfold maxLen at hbig
  have key : ∀ (w' : World) p n c xs, Byt W p n c xs → w' = w.alloc (.cells #[.slice p n c, .int .i64 0] 62) → Cod W w' w.heap.size ∧ Below w.heap.size w w' := by
    intro w' p n c xs hx hw
    have hbb := (Below.refl w.heap.size w).alloc (Nat.le_refl _) (.cells #[.slice p n c, .int .i64 0] 62)
    subst hw
    refine ⟨⟨hs, hb.alloc hs _, fun j => by go_simp, p, n, c, xs, 0, hx, Nat.zero_le _, by go_simp, by go_simp⟩, hbb⟩
  have HK := hidden key
  have H := hidden h
  clear key h hb
  by_cases hlt : m < n
  · go_enter Tryz.func8, Tryz.ntmps8
    go_wp2
    go_ret
    exact ⟨rfl, HK.out _ _ _ _ _ (H.out.front m (by omega)) rfl⟩
  · go_enter Tryz.func8, Tryz.ntmps8
    go_wp2
    go_ret
    exact ⟨rfl, HK.out _ _ _ _ _ H.out rfl⟩
end Go.Proofs.YtkniifopfgeopaaGreat

namespace Go.Proofs.YtkniifopfgeopaaGreat
open Go.RowKit
set_option linter.unusedVariables false

/-- The slice reads as the bytes, and where there is one, it lies at block base or beyond, in a block of bytes. -/
structure Bod (w : World) (base : Nat) (p : Option Addr) (n c : Nat) (xs : List Int) : Prop where
  byt : Byt w p n c xs
  own : 0 < n → ∃ b o cur fz, p = some ⟨b, o, none⟩ ∧ base ≤ b ∧ w.heap[b]? = some (.cells cur 5 fz)

/-- The row that is written is none of bytes, or lies below base. -/
def OffB (w : World) (base : Nat) (row : Option Nat) : Prop := ∀ r, row = some r → r < base ∨ ∀ cur fz, w.heap[r]? ≠ some (.cells cur 5 fz)
theorem OffB.none (w : World) (base : Nat) : OffB w base none := fun r h => by cases h
theorem OffB.low {w : World} {base k : Nat} (h : k < base) : OffB w base (some k) := fun r hr => by cases hr; exact Or.inl h

theorem Bod.grown {w w' : World} {base : Nat} {p : Option Addr} {n c : Nat} {xs : List Int} {row : Option Nat} (h : Bod w base p n c xs) (hg : w.grownBy w' row) (hr : OffB w base row) : Bod w' base p n c xs := by
  rcases Nat.eq_zero_or_pos n with h0 | h0
  · have hx : xs = [] := List.eq_nil_of_length_eq_zero (h.byt.len.trans h0)
    subst h0 hx
    exact ⟨Byt.nil _ _ _ h.byt.big, fun h => by omega⟩
  · obtain ⟨b, o, cur, fz, rfl, hb, hh⟩ := h.own h0
    have hne : some b ≠ row := by
      intro e
      rcases hr b e.symm with h1 | h1
      · omega
      · exact h1 _ _ hh
    have hlt : b < w.heap.size := (Array.getElem?_eq_some_iff.1 hh).1
    have hblk := hg.block b hlt hne
    refine ⟨⟨h.byt.len, h.byt.cap, h.byt.big, h.byt.rng, fun hn => ?_⟩, fun _ => ⟨b, o, cur, fz, rfl, hb, hblk.trans hh⟩⟩
    obtain ⟨b', o', e, hc⟩ := h.byt.mem hn
    injection e with e
    injection e with e1 e2
    subst e1 e2
    exact ⟨b, o, rfl, fun i hi => (World.cell?_of_block (a := ⟨b, o + i, none⟩) hblk).trans (hc i hi)⟩
theorem Bod.below {w w' : World} {base : Nat} {p : Option Addr} {n c : Nat} {xs : List Int} (h : Bod w base p n c xs) (hb : Below w.heap.size w w') : Bod w' base p n c xs :=
  h.grown (row := none) ⟨hb.os, hb.tape, hb.output, hb.size, fun i hi _ => hb.block i hi⟩ (OffB.none _ _)
theorem Bod.alloc {w : World} {base : Nat} {p : Option Addr} {n c : Nat} {xs : List Int} (h : Bod w base p n c xs) (o : Obj) : Bod (w.alloc o) base p n c xs := h.below ((Below.refl _ w).alloc (Nat.le_refl _) o)
theorem Bod.mono {w : World} {base base' : Nat} {p : Option Addr} {n c : Nat} {xs : List Int} (h : Bod w base p n c xs) (hb : base' ≤ base) : Bod w base' p n c xs :=
  ⟨h.byt, fun h0 => by
    obtain ⟨b, o, cur, fz, e, hb', hh⟩ := h.own h0
    exact ⟨b, o, cur, fz, e, by omega, hh⟩⟩
/-- What a row of the call's own holds. -/
theorem Own.bod {w : World} {base : Nat} {v : Value} {xs : List Int} {n : Nat} (h : Own w base 5 v xs) (hl : xs.length = n) (hr : ∀ x ∈ xs, 0 ≤ x ∧ x ≤ 255) : ∃ p c, v = .slice p n c ∧ Bod w base p n c xs := by
  obtain ⟨p, c, rfl, hb⟩ := h.bytN rfl hl hr
  refine ⟨p, c, rfl, hb, fun h0 => ?_⟩
  rcases h.2 with ⟨hv, hn⟩ | ⟨g, cap, cur, hv, hg, hh, _⟩
  · omega
  · simp at hv
    exact ⟨g, 0, cur, (0, 0), hv.1, hg, hh⟩
theorem Bod.nil (w : World) (base : Nat) (p : Option Addr) (c : Nat) (hc : c ≤ maxLen) : Bod w base p 0 c [] := ⟨Byt.nil _ _ _ hc, fun h => by omega⟩
end Go.Proofs.YtkniifopfgeopaaGreat

namespace Go.Proofs.YtkniifopfgeopaaGreat
open Go.RowKit
set_option linter.unusedVariables false

theorem grown_set_new {a b : World} {row : Option Nat} (h : a.grownBy b row) (g j : Nat) (v : Value) (hg : a.heap.size ≤ g) : a.grownBy (b.setCell ⟨g, j, none⟩ v) row :=
  ⟨h.os, h.tape, h.output, by simp [World.setCell]; exact h.size, fun i hi hne => (Below.heap_setCell _ _ _ _ (by simp; omega)).trans (h.block i hi hne)⟩
theorem grown_alloc_new {a b : World} {row : Option Nat} (h : a.grownBy b row) (o : Obj) : a.grownBy (b.alloc o) row := grown_trans h (World.grownBy_alloc b o row)

theorem grown_own {a b c : World} {row row' : Option Nat} (h : a.grownBy b row) (hg : b.grownBy c row') (hr : ∀ j, row' = some j → a.heap.size ≤ j) : a.grownBy c row :=
  ⟨hg.os.trans h.os, hg.tape.trans h.tape, hg.output.trans h.output, Nat.le_trans h.size hg.size, fun i hi hne => (hg.block i (Nat.lt_of_lt_of_le hi h.size) (fun e => by have := hr i e.symm; omega)).trans (h.block i hi hne)⟩

theorem ints_at (w : World) (l : List Int) (T : TypeId) (j : Nat) (hj : j < l.length) : (w.alloc (.cells (l.map (Value.int .i64)).toArray T)).cell? ⟨w.heap.size, j, none⟩ = some (.int .i64 (l.getD j 0)) := by
  rw [World.cell?_alloc_at _ _ _ _ rfl]
  simp [List.getD_eq_getElem?_getD, List.getElem?_eq_getElem hj]

end Go.Proofs.YtkniifopfgeopaaGreat

namespace Go.Proofs.YtkniifopfgeopaaGreat
open Go.RowKit
set_option linter.unusedVariables false

/-- An address: its family and its two halves. -/
structure Ad where
  f : Int
  h : Int
  l : Int
  deriving DecidableEq
/-- A selector. -/
structure Sl where
  p : Int
  a : Int
  b : Int
  lo : Ad
  hi : Ad
  deriving DecidableEq
def ltA (x y : Ad) : Bool := if x.f ≠ y.f then decide (x.f < y.f) else if x.h ≠ y.h then decide (x.h < y.h) else decide (x.l < y.l)
def validA (x : Ad) : Bool := decide (x.f = 6) || (decide (x.f = 4) && decide (x.h = 0) && decide (x.l < 4294967296))
/-- The numbers of an address fit its fields. -/
structure FitA (x : Ad) : Prop where
  f : -9223372036854775808 ≤ x.f ∧ x.f ≤ 9223372036854775807
  h : 0 ≤ x.h ∧ x.h ≤ 18446744073709551615
  l : 0 ≤ x.l ∧ x.l ≤ 18446744073709551615
structure FitS (x : Sl) : Prop where
  p : -9223372036854775808 ≤ x.p ∧ x.p ≤ 9223372036854775807
  a : -9223372036854775808 ≤ x.a ∧ x.a ≤ 9223372036854775807
  b : -9223372036854775808 ≤ x.b ∧ x.b ≤ 9223372036854775807
  lo : FitA x.lo
  hi : FitA x.hi
/-- One number that orders addresses. -/
def keyA (x : Ad) : Int := (x.f * 18446744073709551616 + x.h) * 18446744073709551616 + x.l
theorem key_lt {x y : Ad} (hx : FitA x) (hy : FitA y) : ltA x y = decide (keyA x < keyA y) := by
  obtain ⟨_, h1, l1⟩ := hx
  obtain ⟨_, h2, l2⟩ := hy
  unfold ltA keyA
  split
  · apply decide_eq_decide.2
    omega
  · split
    · apply decide_eq_decide.2
      omega
    · apply decide_eq_decide.2
      omega
def portsOk (a b : Int) : Bool := (decide (a = 65535) && decide (b = 0)) || (decide (0 ≤ a) && decide (a ≤ b) && decide (b ≤ 65535))
/-- The first error of a selector: 15 a family, 5 a range. -/
def checkS (s : Sl) : Int :=
  if validA s.lo = false ∨ validA s.hi = false ∨ s.lo.f ≠ s.hi.f then 15
  else if ltA s.hi s.lo = true ∨ s.p < 0 ∨ s.p > 255 ∨ portsOk s.a s.b = false then 5 else 0
/-- The ports as a range in which the opaque port is -1. -/
def spanP (s : Sl) : Int × Int := if s.a = 65535 ∧ s.b = 0 then (-1, -1) else if s.a = 0 ∧ s.b = 65535 then (-1, 65535) else (s.a, s.b)
def fieldsP (lo hi : Int) : Int × Int := if hi = -1 then (65535, 0) else if lo = -1 then (0, 65535) else (lo, hi)
def withinA (x lo hi : Ad) : Bool := !ltA x lo && !ltA hi x
def hasS (s : Sl) (x : Ad) (p port : Int) : Bool := withinA x s.lo s.hi && (decide (s.p = 0) || decide (s.p = p)) && decide ((spanP s).1 ≤ port) && decide (port ≤ (spanP s).2)
def zeroA : Ad := ⟨0, 0, 0⟩
def zeroS : Sl := ⟨0, 0, 0, zeroA, zeroA⟩
def loM (a b : Sl) : Ad := if ltA a.lo b.lo = true then b.lo else a.lo
def hiM (a b : Sl) : Ad := if ltA b.hi a.hi = true then b.hi else a.hi
def prM (a b : Sl) : Int := if a.p = 0 then b.p else a.p
def loP (a b : Sl) : Int := max (spanP a).1 (spanP b).1
def hiP (a b : Sl) : Int := min (spanP a).2 (spanP b).2
/-- The packets that both have. -/
def meetS (a b : Sl) : Sl × Bool :=
  if ltA (hiM a b) (loM a b) = true ∨ (b.p ≠ 0 ∧ b.p ≠ prM a b) ∨ hiP a b < loP a b then (zeroS, false)
  else (⟨prM a b, (fieldsP (loP a b) (hiP a b)).1, (fieldsP (loP a b) (hiP a b)).2, loM a b, hiM a b⟩, true)
def insideS (a b : Sl) : Bool := (meetS a b).2 && decide ((meetS a b).1 = a)

/-- What a good selector is, in numbers. -/
structure GoodS (s : Sl) : Prop where
  flo : FitA s.lo
  fhi : FitA s.hi
  vlo : validA s.lo = true
  vhi : validA s.hi = true
  fam : s.lo.f = s.hi.f
  le : keyA s.lo ≤ keyA s.hi
  p : 0 ≤ s.p ∧ s.p ≤ 255
  q : (s.a = 65535 ∧ s.b = 0) ∨ (0 ≤ s.a ∧ s.a ≤ s.b ∧ s.b ≤ 65535)
theorem GoodS.check {s : Sl} (h : GoodS s) : checkS s = 0 := by
  unfold checkS
  rw [key_lt h.fhi h.flo, h.vlo, h.vhi]
  have h1 := h.le
  have h2 := h.p
  have h3 := h.q
  have hp : portsOk s.a s.b = true := by
    unfold portsOk
    simp
    omega
  rw [if_neg (by simp; exact h.fam), if_neg (by simp [hp]; omega)]
theorem good_of_check {s : Sl} (f : FitS s) (h : checkS s = 0) : GoodS s := by
  unfold checkS at h
  split at h
  · cases h
  rename_i h1
  split at h
  · cases h
  rename_i h2
  rw [key_lt f.hi f.lo] at h2
  have hp : portsOk s.a s.b = true := by
    cases hh : portsOk s.a s.b
    · exact absurd (Or.inr (Or.inr (Or.inr hh))) h2
    · rfl
  have hl : validA s.lo = true := by
    cases hh : validA s.lo
    · exact absurd (Or.inl hh) h1
    · rfl
  have hh : validA s.hi = true := by
    cases hh : validA s.hi
    · exact absurd (Or.inr (Or.inl hh)) h1
    · rfl
  have hf : s.lo.f = s.hi.f := by
    apply Classical.byContradiction
    intro k
    exact h1 (Or.inr (Or.inr k))
  unfold portsOk at hp
  simp only [Bool.or_eq_true, Bool.and_eq_true, decide_eq_true_eq] at hp h2
  exact ⟨f.lo, f.hi, hl, hh, hf, by omega, by omega, by omega⟩
theorem GoodS.fit {s : Sl} (h : GoodS s) : FitS s := by
  have h2 := h.p
  have h3 := h.q
  exact ⟨by omega, by omega, by omega, h.flo, h.fhi⟩

/-- A range of ports that a good selector has. -/
def OkP2 (l h : Int) : Prop := (l = -1 ∧ h = -1) ∨ (l = -1 ∧ h = 65535) ∨ (0 ≤ l ∧ l ≤ h ∧ h ≤ 65535 ∧ ¬ (l = 0 ∧ h = 65535))
/-- What a meet is, in numbers: c is the meet of a and b. -/
structure MeetS (a b c : Sl) : Prop where
  p : c.p = prM a b
  pb : b.p = 0 ∨ b.p = prM a b
  lo : keyA c.lo = max (keyA a.lo) (keyA b.lo)
  hi : keyA c.hi = min (keyA a.hi) (keyA b.hi)
  slo : c.lo = a.lo ∨ c.lo = b.lo
  shi : c.hi = a.hi ∨ c.hi = b.hi
  le : keyA c.lo ≤ keyA c.hi
  q1 : (spanP c).1 = max (spanP a).1 (spanP b).1
  q2 : (spanP c).2 = min (spanP a).2 (spanP b).2
  ok : OkP2 (spanP c).1 (spanP c).2
  fld : fieldsP (spanP c).1 (spanP c).2 = (c.a, c.b)
/-- Whether two selectors meet, in numbers. -/
def canMeet (a b : Sl) : Prop := max (keyA a.lo) (keyA b.lo) ≤ min (keyA a.hi) (keyA b.hi) ∧ (b.p = 0 ∨ b.p = prM a b) ∧ max (spanP a).1 (spanP b).1 ≤ min (spanP a).2 (spanP b).2
theorem MeetS.good {a b c : Sl} (ha : GoodS a) (hb : GoodS b) (hf : a.lo.f = b.lo.f) (h : MeetS a b c) : GoodS c := by
  have hq := h.ok
  have hfl := h.fld
  have e1 := ha.fam
  have e2 := hb.fam
  refine ⟨?_, ?_, ?_, ?_, ?_, h.le, ?_, ?_⟩
  · rcases h.slo with e | e <;> rw [e]; exact ha.flo; exact hb.flo
  · rcases h.shi with e | e <;> rw [e]; exact ha.fhi; exact hb.fhi
  · rcases h.slo with e | e <;> rw [e]; exact ha.vlo; exact hb.vlo
  · rcases h.shi with e | e <;> rw [e]; exact ha.vhi; exact hb.vhi
  · rcases h.slo with e | e <;> rcases h.shi with e' | e' <;> rw [e, e'] <;> omega
  · rw [h.p]
    unfold prM
    split
    · exact hb.p
    · exact ha.p
  · unfold OkP2 at hq
    unfold fieldsP at hfl
    split at hfl
    · simp at hfl; omega
    split at hfl
    · simp at hfl; omega
    · simp at hfl; omega
def pm (a b : Int) : Int := if a = 0 then b else a
end Go.Proofs.YtkniifopfgeopaaGreat

namespace Go.Proofs.YtkniifopfgeopaaGreat
open Go.RowKit
set_option linter.unusedVariables false

/-- A kind of elements: the type, the number of cells, the cells of one. -/
structure KindR (α : Type) where
  e : TypeId
  k : Nat
  cs : α → List Value
  len : ∀ x, (cs x).length = k
  one : ∀ x, ∀ u ∈ cs x, u.oneCell' = true
  pos : 0 < k

section
variable {α : Type} (K : KindR α)
def KindR.row (l : List α) : List Value := l.flatMap K.cs
theorem KindR.row_cons (x : α) (l : List α) : K.row (x :: l) = K.cs x ++ K.row l := rfl
theorem KindR.row_append (l r : List α) : K.row (l ++ r) = K.row l ++ K.row r := by simp [KindR.row]
theorem KindR.row_len (l : List α) : (K.row l).length = l.length * K.k := by
  induction l with
  | nil => simp [KindR.row]
  | cons x l ih => rw [K.row_cons, List.length_append, K.len, ih, List.length_cons, Nat.add_mul]; omega
theorem KindR.row_one (l : List α) : ∀ u ∈ K.row l, u.oneCell' = true := by
  intro u hu
  obtain ⟨x, _, h⟩ := List.mem_flatMap.1 hu
  exact K.one x u h
theorem KindR.row_get (l : List α) (j : Nat) (hj : j < l.length) (i : Nat) (u : Value) (hu : (K.cs l[j])[i]? = some u) : (K.row l)[j * K.k + i]? = some u := by
  induction l generalizing j with
  | nil => simp at hj
  | cons x l ih =>
    have hi : i < K.k := by have := (List.getElem?_eq_some_iff.1 hu).1; rw [K.len] at this; exact this
    rw [K.row_cons]
    cases j with
    | zero =>
      rw [Nat.zero_mul, Nat.zero_add, List.getElem?_append_left (by rw [K.len]; exact hi)]
      exact hu
    | succ j =>
      rw [List.getElem?_append_right (by rw [K.len, Nat.add_mul]; omega), K.len, show (j + 1) * K.k + i - K.k = j * K.k + i by rw [Nat.add_mul]; omega]
      exact ih j (by simpa using hj) (by simpa using hu)
theorem KindR.row_set (l : List α) (j : Nat) (hj : j < l.length) (i : Nat) (hi : i < K.k) (u : Value) (y : α) (hy : K.cs y = (K.cs l[j]).set i u) : K.row (l.set j y) = (K.row l).set (j * K.k + i) u := by
  induction l generalizing j with
  | nil => simp at hj
  | cons x l ih =>
    cases j with
    | zero =>
      rw [List.set_cons_zero, K.row_cons, K.row_cons, Nat.zero_mul, Nat.zero_add, List.set_append_left _ _ (by rw [K.len]; exact hi), hy]
      rfl
    | succ j =>
      rw [List.set_cons_succ, K.row_cons, K.row_cons, List.set_append_right _ _ (by rw [K.len, Nat.add_mul]; omega), K.len, show (j + 1) * K.k + i - K.k = j * K.k + i by rw [Nat.add_mul]; omega]
      rw [ih j (by simpa using hj) (by simpa using hy)]
end

/-- The row that is written is of none of these types, or lies below base. -/
def OffT (ts : List TypeId) (w : World) (base : Nat) (row : Option Nat) : Prop := ∀ r, row = some r → r < base ∨ ∀ cur e fz, w.heap[r]? = some (.cells cur e fz) → e ∉ ts
theorem OffT.none (ts : List TypeId) (w : World) (base : Nat) : OffT ts w base none := fun r h => by cases h
theorem OffT.low {ts : List TypeId} {w : World} {base k : Nat} (h : k < base) : OffT ts w base (some k) := fun r hr => by cases hr; exact Or.inl h
theorem OffT.sub {ts us : List TypeId} {w : World} {base : Nat} {row : Option Nat} (h : OffT ts w base row) (hs : ∀ t ∈ us, t ∈ ts) : OffT us w base row := fun r hr => by
  rcases h r hr with h | h
  · exact Or.inl h
  · exact Or.inr (fun cur e fz hh hm => h cur e fz hh (hs e hm))
theorem OffT.of_type {ts : List TypeId} {w : World} {base r : Nat} {cur : Array Value} {e : TypeId} {fz : Nat × Nat} (h : w.heap[r]? = some (.cells cur e fz)) (he : e ∉ ts) : OffT ts w base (some r) := fun r' hr => by
  cases hr
  exact Or.inr (fun cur' e' fz' h' => by rw [h] at h'; simp at h'; rw [← h'.2.1]; exact he)

/-- The memory behind an element: in blocks of these types. -/
structure NestR (α : Type) where
  ts : List TypeId
  ok : World → Nat → α → Prop
  keep : ∀ {w w' : World} {base : Nat} {row : Option Nat} {x : α}, ok w base x → w.grownBy w' row → OffT ts w base row → ok w' base x
  mono : ∀ {w : World} {base base' : Nat} {x : α}, ok w base x → base' ≤ base → ok w base' x

/-- The call's own row v holds the elements, with what lies behind them. -/
structure RowG {α : Type} (K : KindR α) (N : NestR α) (w : World) (base : Nat) (v : Value) (l : List α) : Prop where
  own : w.ownsRow base K.e K.k v l.length (K.row l)
  ok : ∀ x ∈ l, N.ok w base x

section
variable {α : Type} {K : KindR α} {N : NestR α} {w w' : World} {base : Nat} {v : Value} {l : List α}
theorem RowG.nil (K : KindR α) (N : NestR α) (w : World) (base : Nat) : RowG K N w base (.slice none 0 0) [] := ⟨World.ownsRow_nil w base K.e K.k, fun x hx => by cases hx⟩
theorem RowG.mono {base' : Nat} (h : RowG K N w base v l) (hb : base' ≤ base) : RowG K N w base' v l := by
  refine ⟨⟨h.own.1, ?_⟩, fun x hx => N.mono (h.ok x hx) hb⟩
  rcases h.own.2 with h1 | ⟨g, cap, cur, hv, hg, rest⟩
  · exact Or.inl h1
  · exact Or.inr ⟨g, cap, cur, hv, by omega, rest⟩
theorem RowG.lt (h : RowG K N w base v l) : ∀ k, v.ownBlock = some k → base ≤ k ∧ k < w.heap.size := World.ownsRow.lt h.own
theorem RowG.grown {row : Option Nat} (h : RowG K N w base v l) (hg : w.grownBy w' row) (hne : ∀ r, row = some r → v.ownBlock ≠ some r) (hr : OffT N.ts w base row) : RowG K N w' base v l :=
  ⟨World.ownsRow.kept h.own hg (by
    rcases hv : v.ownBlock with _ | b
    · exact Or.inl rfl
    · refine Or.inr ?_
      intro e
      rcases hrow : row with _ | r
      · rw [hrow] at e; cases e
      · rw [hrow] at e
        cases e
        exact hne _ hrow hv), fun x hx => N.keep (h.ok x hx) hg hr⟩
theorem RowG.low {k : Nat} (h : RowG K N w base v l) (hg : w.grownBy w' (some k)) (hk : k < base) : RowG K N w' base v l :=
  h.grown hg (fun r hr e => by cases hr; have := (h.lt k e).1; omega) (OffT.low hk)
theorem RowG.below (h : RowG K N w base v l) (hb : Below w.heap.size w w') : RowG K N w' base v l :=
  h.grown (row := none) ⟨hb.os, hb.tape, hb.output, hb.size, fun i hi _ => hb.block i hi⟩ (fun r hr => by cases hr) (OffT.none _ _ _)
theorem RowG.alloc (h : RowG K N w base v l) (o : Obj) : RowG K N (w.alloc o) base v l := h.below ((Below.refl _ w).alloc (Nat.le_refl _) o)
/-- Writing the row itself leaves what lies in blocks of other types. -/
theorem RowG.offT {ts : List TypeId} {base' : Nat} (h : RowG K N w base v l) (he : K.e ∉ ts) : OffT ts w base' v.ownBlock := fun r hr => by
  rcases h.own.2 with ⟨rfl, _⟩ | ⟨g, cap, cur, rfl, hg, hh, _⟩
  · simp [Value.ownBlock] at hr
  · simp [Value.ownBlock] at hr
    subst hr
    exact OffT.of_type hh he g rfl
theorem RowG.form (h : RowG K N w base v l) {n : Nat} (hn : l.length = n) : ∃ p c, v = .slice p n c := by
  subst hn
  rcases h.own.2 with ⟨rfl, h0⟩ | ⟨g, cap, cur, rfl, _⟩
  · exact ⟨none, 0, by rw [h0]⟩
  · exact ⟨_, _, rfl⟩
/-- A row that is not empty: where it lies, its cells, and that none is frozen. -/
theorem RowG.at_ (h : RowG K N w base v l) {n : Nat} (hn : l.length = n) (hp : 0 < n) :
    ∃ g c, v = .slice (some ⟨g, 0, none⟩) n c ∧ n ≤ c ∧ c ≤ maxLen ∧ base ≤ g ∧ g < w.heap.size ∧ (∀ j u, (K.row l)[j]? = some u → w.cell? ⟨g, j, none⟩ = some u) ∧ (∀ j, w.frozen? ⟨g, j, none⟩ = false) := by
  subst hn
  have h0 := h.own
  rcases h.own.2 with ⟨rfl, hz⟩ | ⟨g, cap, cur, rfl, hb, hh, hnc, hm, hs, ht⟩
  · omega
  · refine ⟨g, cap, rfl, hnc, hm, hb, (Array.getElem?_eq_some_iff.1 hh).1, fun j u hj => ?_, fun j => World.ownsRow.frozenAt h0 j⟩
    have := World.ownsRow.cells h0 (g := g) rfl j u hj
    rw [WideShapes.add_plain, Nat.zero_add] at this
    exact this
/-- A store into one cell of one element. -/
theorem RowG.set {g n c : Nat} (h : RowG K N w base (.slice (some ⟨g, 0, none⟩) n c) l) (j : Nat) (hj : j < l.length) (i : Nat) (hi : i < K.k) (u : Value) (y : α) (hy : K.cs y = (K.cs l[j]).set i u) (hn : l.length = n) (he : K.e ∉ N.ts)
    (hok : N.ok (w.setCell ⟨g, j * K.k + i, none⟩ u) base y) : RowG K N (w.setCell ⟨g, j * K.k + i, none⟩ u) base (.slice (some ⟨g, 0, none⟩) n c) (l.set j y) := by
  subst hn
  have hg : w.grownBy (w.setCell ⟨g, j * K.k + i, none⟩ u) (some g) := ⟨rfl, rfl, rfl, by simp [World.setCell], fun i hi hne => Below.heap_setCell _ _ _ _ (by simp at hne; exact hne)⟩
  refine ⟨?_, fun x hx => ?_⟩
  · have := (World.ownsRow.stored h.own (j * K.k + i) u).1
    rw [List.length_set, K.row_set l j hj i hi u y hy]
    exact this
  · rcases List.mem_or_eq_of_mem_set hx with hx | rfl
    · exact N.keep (h.ok x hx) hg (by have := h.offT (ts := N.ts) (base' := base) he; simpa [Value.ownBlock] using this)
    · exact hok
end

/-- The source of an append: so many elements lie there. -/
def SrcG {α : Type} (K : KindR α) (w : World) (p : Option Addr) (m : Nat) (r : List α) : Prop := r.length = m ∧ (0 < m → ∃ ad, p = some ad ∧ ∀ j u, (K.row r)[j]? = some u → w.cell? (ad.add j) = some u)
theorem RowG.src {α : Type} {K : KindR α} {N : NestR α} {w : World} {base : Nat} {p : Option Addr} {m c : Nat} {l : List α} (h : RowG K N w base (.slice p m c) l) : SrcG K w p m l := by
  obtain ⟨p', c', e⟩ := h.form rfl
  simp at e
  obtain ⟨rfl, rfl, rfl⟩ := e
  refine ⟨rfl, fun h0 => ?_⟩
  obtain ⟨g, c', hv, _, _, _, _, hc, _⟩ := h.at_ rfl h0
  simp at hv
  obtain ⟨rfl, rfl⟩ := hv
  exact ⟨_, rfl, fun j u hj => by rw [WideShapes.add_plain, Nat.zero_add]; exact hc j u hj⟩
/-- Elements that were laid out in a block that was just made. -/
theorem SrcG.new {α : Type} (K : KindR α) (w : World) (r : List α) (T : TypeId) : SrcG K (w.alloc (.cells (K.row r).toArray T)) (some ⟨w.heap.size, 0, none⟩) r.length r :=
  ⟨rfl, fun _ => ⟨_, rfl, fun j u hj => by
    rw [WideShapes.add_plain, Nat.zero_add, World.cell?_alloc_at _ _ _ _ rfl]
    simpa using hj⟩⟩

/-- What the program knows of a kind's slices. -/
structure KnownR {α : Type} (P : Program) (K : KindR α) (t : TypeId) (bytes : Nat) : Prop where
  under : P.underlying t = some (.slice K.e)
  info : ∃ i z, P.info? K.e = some i ∧ i.zero = some z ∧ i.size = K.k ∧ i.bytes = bytes ∧ z.cells.size = K.k

section
variable {α : Type} {P : Program} {K : KindR α} {N : NestR α} {t : TypeId} {bytes : Nat}
theorem run_append_g (hk : KnownR P K t bytes) (he : K.e ∉ N.ts) (w : World) (base : Nat) (ty : TypeId) (v : Value) (l : List α) (h : RowG K N w base v l) (p : Option Addr) (m c : Nat) (r : List α) (hs : SrcG K w p m r) (hr : ∀ x ∈ r, N.ok w base x)
    (h63 : l.length + m ≤ maxLen) (hbytes : (l.length + m) * bytes ≤ 140737488355328) (hbase : base ≤ w.heap.size) :
    ∃ v' w', (Builtin.append_ #[t, t] ty #[v, .slice p m c]).run P w = .ok v' w' ∧ RowG K N w' base v' (l ++ r) ∧ w.grownBy w' v.ownBlock := by
  obtain ⟨i0, z, hi, hz0, hz1, hz2, hz3⟩ := hk.info
  have ht := hk.under
  have key : ∀ {w' : World}, w.grownBy w' v.ownBlock → ∀ x ∈ l ++ r, N.ok w' base x := fun hg x hx => by
    rcases List.mem_append.1 hx with hx | hx
    · exact N.keep (h.ok x hx) hg (h.offT he)
    · exact N.keep (hr x hx) hg (h.offT he)
  cases p with
  | none =>
    have hm : m = 0 := by
      rcases Nat.eq_zero_or_pos m with h0 | h0
      · exact h0
      · obtain ⟨ad, e, _⟩ := hs.2 h0
        cases e
    subst hm
    obtain rfl : r = [] := List.eq_nil_of_length_eq_zero hs.1
    refine ⟨v, w, ?_, by rw [List.append_nil]; exact h, World.grownBy.refl w _⟩
    rcases h.own.2 with ⟨rfl, hx⟩ | ⟨g, cap, cur, rfl, _, _, hnc, _⟩
    · simp [Builtin.append_, run_underlying ht, sizeOf, typeInfo, hi, Builtin.lenOf, Builtin.firstCells]
    · simp [Builtin.append_, run_underlying ht, sizeOf, typeInfo, hi, Builtin.lenOf, Builtin.firstCells, hnc, storeCells]
  | some a =>
    have hcells : ∀ j u, (K.row r)[j]? = some u → w.cell? (a.add j) = some u := by
      intro j u hj
      rcases Nat.eq_zero_or_pos m with h0 | h0
      · have : r = [] := List.eq_nil_of_length_eq_zero (hs.1.trans h0)
        subst this
        simp [KindR.row] at hj
      · obtain ⟨ad, e, hc⟩ := hs.2 h0
        cases e
        exact hc j u hj
    obtain ⟨v', w', hrun, h2, h3, _⟩ := run_append_own (P := P) w base t ty K.e i0 z K.k bytes ht hi hz0 hz1 hz2 hz3 K.pos v l.length (K.row l) h.own a m c (K.row r) (by rw [K.row_len, hs.1])
      hcells (K.row_one r) h63 hbytes hbase
    refine ⟨v', w', hrun, ⟨?_, key h3⟩, h3⟩
    rw [List.length_append, K.row_append, hs.1]
    exact h2

theorem wp_append_g (hk : KnownR P K t bytes) (he : K.e ∉ N.ts) (w : World) {o : Oper} {a : Act} {C : Act → World → Prop} {Q : Exit → Act → World → Prop} (s x : Operand)
    (ho : o.op = .call { callee := .builtin .append, args := #[s, x], argTypes := #[t, t] })
    (base : Nat) (v : Value) (l : List α) (hs : a.eval s = v) (hv : RowG K N w base v l)
    (p : Option Addr) (m c : Nat) (r : List α) (hx : a.eval x = .slice p m c) (hsrc : SrcG K w p m r) (hr : ∀ x ∈ r, N.ok w base x) (h63 : l.length + m ≤ maxLen) (hbytes : (l.length + m) * bytes ≤ 140737488355328) (hbase : base ≤ w.heap.size)
    (h : ∀ v' w', RowG K N w' base v' (l ++ r) → w.grownBy w' v.ownBlock → C (a.put o.dst v') w') : o.wp P a w C Q := by
  obtain ⟨v', w', hrun, h2, h3⟩ := run_append_g hk he w base o.type v l hv p m c r hsrc hr h63 hbytes hbase
  unfold Oper.wp execOp
  simp only [ho, resolve, invoke, builtin, Sem.run_bind, Sem.run_pure, Result.andThen_ok, List.map_toArray, List.map_cons, List.map_nil, hs, hx, hrun]
  exact h v' w' h2 h3
/-- append(l, r...) as a law of the walk; the operation may stand behind a guard that says yes. -/
theorem wpList_append_g (hk : KnownR P K t bytes) (he : K.e ∉ N.ts) (w : World) {ops : Array Oper} {rest : List Oper} {o : Oper} {a : Act} {Q : Exit → Act → World → Prop} (hw : Region.wanted o (yielded ops a.tmps) = true) (s x : Operand)
    (ho : o.op = .call { callee := .builtin .append, args := #[s, x], argTypes := #[t, t] })
    (base : Nat) (v : Value) (l : List α) (hs : a.eval s = v) (hv : RowG K N w base v l)
    (p : Option Addr) (m c : Nat) (r : List α) (hx : a.eval x = .slice p m c) (hsrc : SrcG K w p m r) (hr : ∀ x ∈ r, N.ok w base x) (h63 : l.length + m ≤ maxLen) (hbytes : (l.length + m) * bytes ≤ 140737488355328) (hbase : base ≤ w.heap.size)
    (h : ∀ v' w', RowG K N w' base v' (l ++ r) → w.grownBy w' v.ownBlock → wpList P ops Q rest (a.put o.dst v') w') : wpList P ops Q (o :: rest) a w := by
  refine wpList_step fun C hC => ?_
  rw [if_pos hw]
  exact wp_append_g hk he w s x ho base v l hs hv p m c r hx hsrc hr h63 hbytes hbase fun v' w' h2 h3 => hC _ _ (h v' w' h2 h3)
end

/-- What can be read behind an element. -/
structure ReadN (α : Type) where
  ok : World → α → Prop
  keep : ∀ {w w' : World} {x : α}, ok w x → (∀ a v, w.cell? a = some v → w'.cell? a = some v) → ok w' x
/-- The slice reads as the elements, with what lies behind them. -/
structure RdG {α : Type} (K : KindR α) (D : ReadN α) (w : World) (p : Option Addr) (n c : Nat) (l : List α) : Prop where
  len : l.length = n
  cap : n ≤ c
  big : c ≤ maxLen
  mem : 0 < n → ∃ g, p = some ⟨g, 0, none⟩ ∧ ∀ j u, (K.row l)[j]? = some u → w.cell? ⟨g, j, none⟩ = some u
  ok : ∀ x ∈ l, D.ok w x
section
variable {α : Type} {K : KindR α} {D : ReadN α} {w w' : World} {p : Option Addr} {n c : Nat} {l : List α}
theorem RdG.keep (h : RdG K D w p n c l) (hk : ∀ a v, w.cell? a = some v → w'.cell? a = some v) : RdG K D w' p n c l :=
  ⟨h.len, h.cap, h.big, fun h0 => by
    obtain ⟨g, e, hc⟩ := h.mem h0
    exact ⟨g, e, fun j u hj => hk _ _ (hc j u hj)⟩, fun x hx => D.keep (h.ok x hx) hk⟩
theorem RdG.below (h : RdG K D w p n c l) (hb : Below w.heap.size w w') : RdG K D w' p n c l := h.keep (cell_below hb)
theorem RdG.le (h : RdG K D w p n c l) : n ≤ 9223372036854775807 := by
  have h1 := h.cap
  have h2 := h.big
  unfold maxLen at h2
  omega
theorem RdG.cell (h : RdG K D w p n c l) (j : Nat) (hj : j < l.length) : ∃ g, p = some ⟨g, 0, none⟩ ∧ (∀ i u, (K.cs l[j])[i]? = some u → w.cell? ⟨g, j * K.k + i, none⟩ = some u) ∧ D.ok w l[j] := by
  obtain ⟨g, e, hc⟩ := h.mem (by have := h.len; omega)
  exact ⟨g, e, fun i u hi => hc _ _ (K.row_get l j hj i u hi), h.ok _ (List.getElem_mem hj)⟩
theorem RowG.rd {N : NestR α} {base : Nat} {v : Value} (h : RowG K N w base v l) {n : Nat} (hn : l.length = n) (hd : ∀ x, N.ok w base x → D.ok w x) : ∃ p c, v = .slice p n c ∧ RdG K D w p n c l := by
  subst hn
  have hok : ∀ x ∈ l, D.ok w x := fun x hx => hd x (h.ok x hx)
  rcases h.own.2 with ⟨rfl, h0⟩ | ⟨g, cap, cur, rfl, hg, hh, hnc, hm, hs, ht⟩
  · exact ⟨none, 0, by rw [h0], rfl, by omega, by unfold maxLen; omega, fun h => by omega, hok⟩
  · refine ⟨_, _, rfl, rfl, hnc, hm, fun h0 => ⟨g, rfl, fun j u hj => ?_⟩, hok⟩
    have := World.ownsRow.cells h.own (g := g) rfl j u hj
    rw [WideShapes.add_plain, Nat.zero_add] at this
    exact this
/-- Elements that were laid out in a block that was just made. -/
theorem RdG.new (K : KindR α) (D : ReadN α) (w : World) (l : List α) (T : TypeId) (hl : l.length ≤ maxLen) (hd : ∀ x ∈ l, D.ok w x) : RdG K D (w.alloc (.cells (K.row l).toArray T)) (some ⟨w.heap.size, 0, none⟩) l.length l.length l :=
  ⟨rfl, Nat.le_refl _, hl, fun _ => ⟨_, rfl, fun j u hj => by
    rw [World.cell?_alloc_at _ _ _ _ rfl]
    simpa using hj⟩, fun x hx => D.keep (hd x hx) (cell_below ((Below.refl _ w).alloc (Nat.le_refl _) _))⟩
theorem RdG.src (h : RdG K D w p n c l) : SrcG K w p n l :=
  ⟨h.len, fun h0 => by
    obtain ⟨g, e, hc⟩ := h.mem h0
    exact ⟨_, e, fun j u hj => by rw [WideShapes.add_plain, Nat.zero_add]; exact hc j u hj⟩⟩
/-- The first elements. -/
theorem RdG.front (h : RdG K D w p n c l) (j : Nat) (hj : j ≤ n) : RdG K D w p j c (l.take j) := by
  have hl := h.len
  refine ⟨by simp; omega, by have := h.cap; omega, h.big, fun h0 => ?_, fun x hx => h.ok x (List.mem_of_mem_take hx)⟩
  obtain ⟨g, e, hc⟩ := h.mem (by omega)
  refine ⟨g, e, fun i u hi => hc i u ?_⟩
  have h2 : K.row l = K.row (l.take j) ++ K.row (l.drop j) := by rw [← K.row_append, List.take_append_drop]
  rw [h2, List.getElem?_append_left (List.getElem?_eq_some_iff.1 hi).1]
  exact hi
end
end Go.Proofs.YtkniifopfgeopaaGreat

namespace Go.Proofs.YtkniifopfgeopaaGreat
open Go.RowKit
set_option linter.unusedVariables false

/-- Transforms: three numbers. -/
def KTr : KindR Tr where
  e := 112
  k := 3
  cs x := [.int .i64 x.t, .int .i64 x.i, .int .i64 x.k]
  len _ := rfl
  one x u hu := by
    simp at hu
    rcases hu with rfl | rfl | rfl <;> rfl
  pos := by decide
/-- The numbers of a transform are ints. -/
def IntT (x : Tr) : Prop := (-9223372036854775808 ≤ x.t ∧ x.t ≤ 9223372036854775807) ∧ (-9223372036854775808 ≤ x.i ∧ x.i ≤ 9223372036854775807) ∧ (-9223372036854775808 ≤ x.k ∧ x.k ≤ 9223372036854775807)
def NTr : NestR Tr where
  ts := []
  ok _ _ x := IntT x
  keep h _ _ := h
  mono h _ := h
def DTr : ReadN Tr where
  ok _ x := IntT x
  keep h _ := h

/-- A proposal with the places of its SPI and of its transforms. -/
structure PrP where
  n : Int
  p : Int
  sp : Option Addr
  sn : Nat
  sc : Nat
  s : List Int
  tp : Option Addr
  tn : Nat
  tc : Nat
  ts : List Tr
def PrP.pr (x : PrP) : Pr := ⟨x.n, x.p, x.s, x.ts⟩
def KPr : KindR PrP where
  e := 109
  k := 4
  cs x := [.int .i64 x.n, .int .i64 x.p, .slice x.sp x.sn x.sc, .slice x.tp x.tn x.tc]
  len _ := rfl
  one x u hu := by
    simp at hu
    rcases hu with rfl | rfl | rfl | rfl <;> rfl
  pos := by decide
/-- The numbers of a proposal are ints. -/
def IntP (x : PrP) : Prop := (-9223372036854775808 ≤ x.n ∧ x.n ≤ 9223372036854775807) ∧ (-9223372036854775808 ≤ x.p ∧ x.p ≤ 9223372036854775807)
/-- The SPI and the transforms lie in blocks of the call's own. -/
structure OkN (w : World) (base : Nat) (x : PrP) : Prop where
  int : IntP x
  s : Bod w base x.sp x.sn x.sc x.s
  ts : RowG KTr NTr w base (.slice x.tp x.tn x.tc) x.ts
theorem RowG.off {w w' : World} {base : Nat} {v : Value} {l : List Tr} {row : Option Nat} (h : RowG KTr NTr w base v l) (hg : w.grownBy w' row) (hr : OffT [112] w base row) : RowG KTr NTr w' base v l := by
  refine h.grown hg (fun r hrow hv => ?_) (fun r hrow => Or.inr (fun _ _ _ _ hm => by cases hm))
  have h1 := h.lt r hv
  rcases hr r hrow with h2 | h2
  · omega
  · rcases h.own.2 with ⟨rfl, _⟩ | ⟨g, cap, cur, rfl, hg2, hh, _⟩
    · simp [Value.ownBlock] at hv
    · simp [Value.ownBlock] at hv
      subst hv
      exact h2 _ _ _ hh (by simp [KTr])
def NPr : NestR PrP where
  ts := [5, 112]
  ok := OkN
  keep h hg hr := ⟨h.int, h.s.grown hg (fun r hrow => by
    rcases hr r hrow with h1 | h1
    · exact Or.inl h1
    · exact Or.inr (fun cur fz e => h1 _ _ _ e (by simp))), h.ts.off hg (hr.sub (by simp))⟩
  mono h hb := ⟨h.int, h.s.mono hb, h.ts.mono hb⟩
/-- What can be read of a proposal. -/
structure OkD (w : World) (x : PrP) : Prop where
  int : IntP x
  s : Byt w x.sp x.sn x.sc x.s
  ts : RdG KTr DTr w x.tp x.tn x.tc x.ts
def DPr : ReadN PrP where
  ok := OkD
  keep h hk := ⟨h.int, h.s.keep hk, h.ts.keep hk⟩
theorem OkN.rd {w : World} {base : Nat} {x : PrP} (h : OkN w base x) : OkD w x := by
  have hl : x.ts.length = x.tn := by
    rcases h.ts.form rfl with ⟨p, c, e⟩
    simp at e
    exact e.2.1.symm
  obtain ⟨p, c, e, hr⟩ := h.ts.rd (D := DTr) hl (fun _ h => h)
  simp at e
  obtain ⟨rfl, rfl⟩ := e
  exact ⟨h.int, h.s.byt, hr⟩

theorem Tryz.infoTr : (Tryz.prog.info? 112).map (fun i => (i.zero, i.size, i.bytes)) = some (some (.agg #[.int .i64 0, .int .i64 0, .int .i64 0]), 3, 24) := by kernel_rfl
theorem Tryz.infoPr : (Tryz.prog.info? 109).map (fun i => (i.zero, i.size, i.bytes)) = some (some (.agg #[.int .i64 0, .int .i64 0, .slice none 0 0, .slice none 0 0]), 4, 64) := by kernel_rfl
theorem knownTr : KnownR Tryz.prog KTr 107 24 := by
  refine ⟨Tryz.underlying107, ?_⟩
  obtain ⟨i0, hi, hz0, hz1, hz2⟩ := info_parts Tryz.infoTr
  exact ⟨i0, _, hi, hz0, hz1, hz2, rfl⟩
theorem knownPr : KnownR Tryz.prog KPr 46 64 := by
  refine ⟨Tryz.underlying46, ?_⟩
  obtain ⟨i0, hi, hz0, hz1, hz2⟩ := info_parts Tryz.infoPr
  exact ⟨i0, _, hi, hz0, hz1, hz2, rfl⟩
/-- One element that was just laid out. -/
theorem srcTr (w : World) (t i k : Int) (T : TypeId) : SrcG KTr (w.alloc (.cells #[.int .i64 t, .int .i64 i, .int .i64 k] T)) (some ⟨w.heap.size, 0, none⟩) 1 [⟨t, i, k⟩] := SrcG.new KTr w [⟨t, i, k⟩] T
theorem srcPr (w : World) (x : PrP) (T : TypeId) : SrcG KPr (w.alloc (.cells #[.int .i64 x.n, .int .i64 x.p, .slice x.sp x.sn x.sc, .slice x.tp x.tn x.tc] T)) (some ⟨w.heap.size, 0, none⟩) 1 [x] := SrcG.new KPr w [x] T
end Go.Proofs.YtkniifopfgeopaaGreat
