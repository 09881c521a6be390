/-
  Bytes that lie in a block of bytes of the call's own: they stay while rows of other things, or blocks of before, are written.
  Plain mathematics, no program: the bytes of selectors; what is read of bytes.
  Plain mathematics, no program: proposals as bytes, written and read.
  Rows of transforms and of proposals in memory: what they are, how they stay, how they grow.
  What package selector's Has and Check answer.
  What the document's own questions on addresses and selectors answer.
  What wire.Put returns, for every slice of bytes, number and width.
  What the document's own Compare and Equal return: the lexicographic order of two slices of bytes, and whether they are equal.
  What wire.Equal returns: whether two slices of bytes hold the same numbers.
  What wire.Slice returns, for every slice of bytes, place and length.
  The cursor that package proposal reads with: a field behind the other; one that is missing is thrown.
-/
import Derived.Test.YtnbkffehhahckaaGreatRows
import Derived.Test.YtnbkffehhahckaaGreatJZ1
import Derived.Test.YtnbkffehhahckaaGreatJZ0
import Derived.Test.YtnbkffehhahckaaGreatJNum
import Derived.Deep.QuietTactic
import Derived.BigQuiet
import Derived.WalkLawsBesides
import Derived.Deep.RegionLaw
namespace Go.Proofs.YtnbkffehhahckaaGreat
open Go.RowKit
set_option linter.unusedVariables false
structure Bod (w : World) (base : Nat) (p : Option Addr) (n c : Nat) (xs : List Int) : Prop where
  byt : Byt w p n c xs
  own : 0 < n → ∃ b o cur fz, p = some ⟨b, o, none⟩ ∧ base ≤ b ∧ w.heap[b]? = some (.cells cur 5 fz)
def OffB (w : World) (base : Nat) (row : Option Nat) : Prop := ∀ r, row = some r → r < base ∨ ∀ cur fz, w.heap[r]? ≠ some (.cells cur 5 fz)
theorem OffB.none (w : World) (base : Nat) : OffB w base none := fun r h => by cases h
theorem OffB.low {w : World} {base k : Nat} (h : k < base) : OffB w base (some k) := fun r hr => by cases hr; exact Or.inl h
theorem Bod.grown {w w' : World} {base : Nat} {p : Option Addr} {n c : Nat} {xs : List Int} {row : Option Nat} (h : Bod w base p n c xs) (hg : w.grownBy w' row) (hr : OffB w base row) : Bod w' base p n c xs := by
  rcases Nat.eq_zero_or_pos n with h0 | h0
  · have hx : xs = [] := List.eq_nil_of_length_eq_zero (h.byt.len.trans h0)
    subst h0 hx
    exact ⟨Byt.nil _ _ _ h.byt.big, fun h => by omega⟩
  · obtain ⟨b, o, cur, fz, rfl, hb, hh⟩ := h.own h0
    have hne : some b ≠ row := by
      intro e
      rcases hr b e.symm with h1 | h1
      · omega
      · exact h1 _ _ hh
    have hlt : b < w.heap.size := (Array.getElem?_eq_some_iff.1 hh).1
    have hblk := hg.block b hlt hne
    refine ⟨⟨h.byt.len, h.byt.cap, h.byt.big, h.byt.rng, fun hn => ?_⟩, fun _ => ⟨b, o, cur, fz, rfl, hb, hblk.trans hh⟩⟩
    obtain ⟨b', o', e, hc⟩ := h.byt.mem hn
    injection e with e
    injection e with e1 e2
    subst e1 e2
    exact ⟨b, o, rfl, fun i hi => (World.cell?_of_block (a := ⟨b, o + i, none⟩) hblk).trans (hc i hi)⟩
theorem Bod.below {w w' : World} {base : Nat} {p : Option Addr} {n c : Nat} {xs : List Int} (h : Bod w base p n c xs) (hb : Below w.heap.size w w') : Bod w' base p n c xs :=
  h.grown (row := none) ⟨hb.os, hb.tape, hb.output, hb.size, fun i hi _ => hb.block i hi⟩ (OffB.none _ _)
theorem Bod.alloc {w : World} {base : Nat} {p : Option Addr} {n c : Nat} {xs : List Int} (h : Bod w base p n c xs) (o : Obj) : Bod (w.alloc o) base p n c xs := h.below ((Below.refl _ w).alloc (Nat.le_refl _) o)
theorem Bod.mono {w : World} {base base' : Nat} {p : Option Addr} {n c : Nat} {xs : List Int} (h : Bod w base p n c xs) (hb : base' ≤ base) : Bod w base' p n c xs :=
  ⟨h.byt, fun h0 => by
    obtain ⟨b, o, cur, fz, e, hb', hh⟩ := h.own h0
    exact ⟨b, o, cur, fz, e, by omega, hh⟩⟩
theorem Own.bod {w : World} {base : Nat} {v : Value} {xs : List Int} {n : Nat} (h : Own w base 5 v xs) (hl : xs.length = n) (hr : ∀ x ∈ xs, 0 ≤ x ∧ x ≤ 255) : ∃ p c, v = .slice p n c ∧ Bod w base p n c xs := by
  obtain ⟨p, c, rfl, hb⟩ := h.bytN rfl hl hr
  refine ⟨p, c, rfl, hb, fun h0 => ?_⟩
  rcases h.2 with ⟨hv, hn⟩ | ⟨g, cap, cur, hv, hg, hh, _⟩
  · omega
  · simp at hv
    exact ⟨g, 0, cur, (0, 0), hv.1, hg, hh⟩
theorem Bod.nil (w : World) (base : Nat) (p : Option Addr) (c : Nat) (hc : c ≤ maxLen) : Bod w base p 0 c [] := ⟨Byt.nil _ _ _ hc, fun h => by omega⟩
end Go.Proofs.YtnbkffehhahckaaGreat

namespace Go.Proofs.YtnbkffehhahckaaGreat
open Go.RowKit
set_option linter.unusedVariables false
def encA (x : Ad) : List Int := if x.f = 4 then be 4 x.l else be 8 x.h ++ be 8 x.l
def sizeA (f : Int) : Nat := if f = 4 then 4 else 16
def encO (s : Sl) : List Int := be 1 (if s.lo.f = 6 then 8 else 7) ++ (be 1 s.p ++ (be 2 (if s.lo.f = 6 then 40 else 16) ++ (be 2 s.a ++ (be 2 s.b ++ (encA s.lo ++ encA s.hi)))))
def encL : List Sl → List Int
  | [] => []
  | s :: l => encO s ++ encL l
def errL : List Sl → Int
  | [] => 0
  | s :: l => if checkS s ≠ 0 then checkS s else errL l
def buildS (l : List Sl) : List Int × Int :=
  if l.length = 0 then ([], 8) else if l.length > 16 then ([], 10) else if errL l ≠ 0 then ([], errL l) else ([(l.length : Int), 0, 0, 0] ++ encL l, 0)
def nAt (xs : List Int) (a k : Nat) : Int := val ((xs.drop a).take k)
def oneS (xs : List Int) : Option (Sl × Nat) :=
  if xs.length < 8 then none
  else if xs.getD 0 0 = 7 ∧ nAt xs 2 2 = 16 ∧ 16 ≤ xs.length then some (⟨xs.getD 1 0, nAt xs 4 2, nAt xs 6 2, ⟨4, 0, nAt xs 8 4⟩, ⟨4, 0, nAt xs 12 4⟩⟩, 16)
  else if xs.getD 0 0 = 8 ∧ nAt xs 2 2 = 40 ∧ 40 ≤ xs.length then some (⟨xs.getD 1 0, nAt xs 4 2, nAt xs 6 2, ⟨6, nAt xs 8 8, nAt xs 16 8⟩, ⟨6, nAt xs 24 8, nAt xs 32 8⟩⟩, 40)
  else none
def manyS : Nat → List Int → Option (List Sl)
  | 0, xs => if xs.length = 0 then some [] else none
  | n + 1, xs => match oneS xs with
    | none => none
    | some (s, k) => (manyS n (xs.drop k)).map (s :: ·)
def parseS (xs : List Int) : List Sl × Int :=
  if xs.length < 4 then ([], 1) else if xs.getD 0 0 = 0 then ([], 8) else if xs.getD 0 0 > 16 then ([], 10)
  else match manyS (xs.getD 0 0).toNat (xs.drop 4) with
    | none => ([], 4)
    | some l => if errL l ≠ 0 then ([], errL l) else (l, 0)
theorem encA_len (x : Ad) : (encA x).length = sizeA x.f := by
  unfold encA sizeA
  split <;> simp [be_len]
theorem encO_len (s : Sl) : (encO s).length = 8 + sizeA s.lo.f + sizeA s.hi.f := by
  unfold encO
  simp only [List.length_append, be_len, encA_len]
  omega
theorem encA_rng (x : Ad) : ∀ z ∈ encA x, 0 ≤ z ∧ z ≤ 255 := by
  unfold encA
  split
  · exact be_rng _ _
  · exact rng_append (be_rng _ _) (be_rng _ _)
theorem encO_rng (s : Sl) : ∀ z ∈ encO s, 0 ≤ z ∧ z ≤ 255 :=
  rng_append (be_rng _ _) (rng_append (be_rng _ _) (rng_append (be_rng _ _) (rng_append (be_rng _ _) (rng_append (be_rng _ _) (rng_append (encA_rng _) (encA_rng _))))))
theorem encL_rng : ∀ (l : List Sl), ∀ z ∈ encL l, 0 ≤ z ∧ z ≤ 255
  | [] => fun z hz => by cases hz
  | s :: l => rng_append (encO_rng s) (encL_rng l)
theorem encL_append (l r : List Sl) : encL (l ++ r) = encL l ++ encL r := by
  induction l with
  | nil => rfl
  | cons s l ih => simp [encL, ih]
theorem errL_zero {l : List Sl} (h : errL l = 0) : ∀ s ∈ l, checkS s = 0 := by
  induction l with
  | nil => intro s hs; cases hs
  | cons s l ih =>
    unfold errL at h
    split at h
    · rename_i k; exact absurd h k
    · rename_i k
      intro t ht
      rcases List.mem_cons.1 ht with rfl | ht
      · apply Classical.byContradiction
        intro e
        exact k e
      · exact ih h t ht
theorem errL_good {l : List Sl} (h : ∀ s ∈ l, checkS s = 0) : errL l = 0 := by
  induction l with
  | nil => rfl
  | cons s l ih =>
    unfold errL
    rw [if_neg (by rw [h s (by simp)]; simp)]
    exact ih (fun t ht => h t (by simp [ht]))
theorem nAt_at (u v w : List Int) (a k : Nat) (ha : u.length = a) (hk : v.length = k) : nAt (u ++ (v ++ w)) a k = val v := by
  subst ha hk
  unfold nAt
  rw [List.drop_left, List.take_left]
theorem be_val (k : Nat) (v : Int) (h0 : 0 ≤ v) (h1 : v < 2 ^ (8 * k)) : val (be k v) = v := by rw [val_be]; exact Int.emod_eq_of_lt h0 h1
theorem be1 (v : Int) (h0 : 0 ≤ v) (h1 : v ≤ 255) : be 1 v = [v] := by
  simp [be]
  omega
theorem one_enc {s : Sl} (h : GoodS s) (zs : List Int) : oneS (encO s ++ zs) = some (s, (encO s).length) ∧ ((encO s).length = 16 ∨ (encO s).length = 40) := by
  have hf := h.fam
  have hp := h.p
  have hq := h.q
  have hl := encO_len s
  have v1 := h.vlo
  have v2 := h.vhi
  have f1 := h.flo
  have f2 := h.fhi
  obtain ⟨sp, sa, sb, ⟨lf, lh, ll⟩, ⟨hf', hh, hl'⟩⟩ := s
  simp only at *
  subst hf
  have hfam : lf = 4 ∨ lf = 6 := by
    unfold validA at v1
    simp at v1
    omega
  have ha : 0 ≤ sa ∧ sa ≤ 65535 := by omega
  have hb : 0 ≤ sb ∧ sb ≤ 65535 := by omega
  rcases hfam with rfl | rfl
  · have w1 : lh = 0 ∧ ll < 4294967296 := by
      unfold validA at v1
      simp at v1
      exact v1
    have w2 : hh = 0 ∧ hl' < 4294967296 := by
      unfold validA at v2
      simp at v2
      exact v2
    obtain ⟨rfl, w1⟩ := w1
    obtain ⟨rfl, w2⟩ := w2
    have e : encO ⟨sp, sa, sb, ⟨4, 0, ll⟩, ⟨4, 0, hl'⟩⟩ = [7, sp] ++ (be 2 16 ++ (be 2 sa ++ (be 2 sb ++ (be 4 ll ++ be 4 hl')))) := by
      unfold encO encA
      simp only [if_true, if_neg (show ¬ (4 : Int) = 6 by decide)]
      rw [be1 7 (by omega) (by omega), be1 sp hp.1 hp.2]
      rfl
    have hlen : (encO ⟨sp, sa, sb, ⟨4, 0, ll⟩, ⟨4, 0, hl'⟩⟩).length = 16 := by rw [hl]; rfl
    refine ⟨?_, Or.inl hlen⟩
    rw [hlen, e]
    have g0 : ([7, sp] ++ (be 2 16 ++ (be 2 sa ++ (be 2 sb ++ (be 4 ll ++ be 4 hl')))) ++ zs) = [7, sp] ++ (be 2 16 ++ (be 2 sa ++ (be 2 sb ++ (be 4 ll ++ (be 4 hl' ++ zs))))) := by simp
    rw [g0]
    have n2 : nAt ([7, sp] ++ (be 2 16 ++ (be 2 sa ++ (be 2 sb ++ (be 4 ll ++ (be 4 hl' ++ zs)))))) 2 2 = 16 :=
      (nAt_at [7, sp] (be 2 16) _ 2 2 rfl (be_len _ _)).trans (be_val 2 16 (by omega) (by decide))
    have n4 : nAt ([7, sp] ++ (be 2 16 ++ (be 2 sa ++ (be 2 sb ++ (be 4 ll ++ (be 4 hl' ++ zs)))))) 4 2 = sa := by
      have := nAt_at ([7, sp] ++ be 2 16) (be 2 sa) (be 2 sb ++ (be 4 ll ++ (be 4 hl' ++ zs))) 4 2 (by simp [be_len]) (be_len _ _)
      rw [List.append_assoc] at this
      exact this.trans (be_val 2 sa ha.1 (by have := ha.2; simp; omega))
    have n6 : nAt ([7, sp] ++ (be 2 16 ++ (be 2 sa ++ (be 2 sb ++ (be 4 ll ++ (be 4 hl' ++ zs)))))) 6 2 = sb := by
      have := nAt_at ([7, sp] ++ (be 2 16 ++ be 2 sa)) (be 2 sb) (be 4 ll ++ (be 4 hl' ++ zs)) 6 2 (by simp [be_len]) (be_len _ _)
      simp only [List.append_assoc] at this ⊢
      exact this.trans (be_val 2 sb hb.1 (by have := hb.2; simp; omega))
    have n8 : nAt ([7, sp] ++ (be 2 16 ++ (be 2 sa ++ (be 2 sb ++ (be 4 ll ++ (be 4 hl' ++ zs)))))) 8 4 = ll := by
      have := nAt_at ([7, sp] ++ (be 2 16 ++ (be 2 sa ++ be 2 sb))) (be 4 ll) (be 4 hl' ++ zs) 8 4 (by simp [be_len]) (be_len _ _)
      simp only [List.append_assoc] at this ⊢
      exact this.trans (be_val 4 ll f1.l.1 (by simp; omega))
    have n12 : nAt ([7, sp] ++ (be 2 16 ++ (be 2 sa ++ (be 2 sb ++ (be 4 ll ++ (be 4 hl' ++ zs)))))) 12 4 = hl' := by
      have := nAt_at ([7, sp] ++ (be 2 16 ++ (be 2 sa ++ (be 2 sb ++ be 4 ll)))) (be 4 hl') zs 12 4 (by simp [be_len]) (be_len _ _)
      simp only [List.append_assoc] at this ⊢
      exact this.trans (be_val 4 hl' f2.l.1 (by simp; omega))
    unfold oneS
    rw [if_neg (by simp [be_len]; omega), if_pos ⟨by simp, n2, by simp [be_len]; omega⟩, n4, n6, n8, n12]
    simp
  · have e : encO ⟨sp, sa, sb, ⟨6, lh, ll⟩, ⟨6, hh, hl'⟩⟩ = [8, sp] ++ (be 2 40 ++ (be 2 sa ++ (be 2 sb ++ (be 8 lh ++ (be 8 ll ++ (be 8 hh ++ be 8 hl')))))) := by
      unfold encO encA
      simp only [if_true, if_neg (show ¬ (6 : Int) = 4 by decide)]
      rw [be1 8 (by omega) (by omega), be1 sp hp.1 hp.2]
      simp
    have hlen : (encO ⟨sp, sa, sb, ⟨6, lh, ll⟩, ⟨6, hh, hl'⟩⟩).length = 40 := by rw [hl]; rfl
    refine ⟨?_, Or.inr hlen⟩
    rw [hlen, e]
    have g0 : ([8, sp] ++ (be 2 40 ++ (be 2 sa ++ (be 2 sb ++ (be 8 lh ++ (be 8 ll ++ (be 8 hh ++ be 8 hl')))))) ++ zs) = [8, sp] ++ (be 2 40 ++ (be 2 sa ++ (be 2 sb ++ (be 8 lh ++ (be 8 ll ++ (be 8 hh ++ (be 8 hl' ++ zs))))))) := by simp
    rw [g0]
    generalize hX : [8, sp] ++ (be 2 40 ++ (be 2 sa ++ (be 2 sb ++ (be 8 lh ++ (be 8 ll ++ (be 8 hh ++ (be 8 hl' ++ zs))))))) = X
    have p64 : (2 : Int) ^ (8 * 8) = 18446744073709551616 := by decide
    have n2 : nAt X 2 2 = 40 := by
      rw [← hX]
      exact (nAt_at [8, sp] (be 2 40) _ 2 2 rfl (be_len _ _)).trans (be_val 2 40 (by omega) (by decide))
    have key : ∀ (u v : List Int) (k a : Nat) (z : Int), X = u ++ (be k z ++ v) → u.length = a → 0 ≤ z → z < 2 ^ (8 * k) → nAt X a k = z := by
      intro u v k a z hx hu h0 h1
      rw [hx]
      exact (nAt_at u (be k z) v a k hu (be_len _ _)).trans (be_val k z h0 h1)
    have n4 := key ([8, sp] ++ be 2 40) (be 2 sb ++ (be 8 lh ++ (be 8 ll ++ (be 8 hh ++ (be 8 hl' ++ zs))))) 2 4 sa (by rw [← hX]; simp) (by simp [be_len]) ha.1 (by have := ha.2; simp; omega)
    have n6 := key ([8, sp] ++ (be 2 40 ++ be 2 sa)) (be 8 lh ++ (be 8 ll ++ (be 8 hh ++ (be 8 hl' ++ zs)))) 2 6 sb (by rw [← hX]; simp) (by simp [be_len]) hb.1 (by have := hb.2; simp; omega)
    have n8 := key ([8, sp] ++ (be 2 40 ++ (be 2 sa ++ be 2 sb))) (be 8 ll ++ (be 8 hh ++ (be 8 hl' ++ zs))) 8 8 lh (by rw [← hX]; simp) (by simp [be_len]) f1.h.1 (by rw [p64]; have := f1.h.2; simp only at this; omega)
    have n16 := key ([8, sp] ++ (be 2 40 ++ (be 2 sa ++ (be 2 sb ++ be 8 lh)))) (be 8 hh ++ (be 8 hl' ++ zs)) 8 16 ll (by rw [← hX]; simp) (by simp [be_len]) f1.l.1 (by rw [p64]; have := f1.l.2; simp only at this; omega)
    have n24 := key ([8, sp] ++ (be 2 40 ++ (be 2 sa ++ (be 2 sb ++ (be 8 lh ++ be 8 ll))))) (be 8 hl' ++ zs) 8 24 hh (by rw [← hX]; simp) (by simp [be_len]) f2.h.1 (by rw [p64]; have := f2.h.2; simp only at this; omega)
    have n32 := key ([8, sp] ++ (be 2 40 ++ (be 2 sa ++ (be 2 sb ++ (be 8 lh ++ (be 8 ll ++ be 8 hh)))))) zs 8 32 hl' (by rw [← hX]; simp) (by simp [be_len]) f2.l.1 (by rw [p64]; have := f2.l.2; simp only at this; omega)
    have hxl : X.length = 40 + zs.length := by rw [← hX]; simp [be_len]; omega
    have d0 : X.getD 0 0 = 8 := by rw [← hX]; rfl
    have d1 : X.getD 1 0 = sp := by rw [← hX]; rfl
    unfold oneS
    rw [if_neg (by omega), if_neg (by rw [d0]; omega), if_pos ⟨d0, n2, by omega⟩, d1, n4, n6, n8, n16, n24, n32]
theorem many_enc : ∀ (l : List Sl), (∀ s ∈ l, GoodS s) → manyS l.length (encL l) = some l
  | [], _ => rfl
  | s :: l, h => by
    have h1 := (one_enc (h s (by simp)) (encL l)).1
    show manyS (l.length + 1) (encO s ++ encL l) = _
    unfold manyS
    rw [h1]
    simp only [List.drop_left]
    rw [many_enc l (fun t ht => h t (by simp [ht]))]
    rfl
theorem parse_encS (l : List Sl) (h : ∀ s ∈ l, GoodS s) (h1 : 1 ≤ l.length) (h2 : l.length ≤ 16) (r1 r2 r3 : Int) : parseS ([(l.length : Int), r1, r2, r3] ++ encL l) = (l, 0) := by
  unfold parseS
  have e : ([(l.length : Int), r1, r2, r3] ++ encL l).getD 0 0 = l.length := rfl
  rw [if_neg (by simp), e, if_neg (by omega), if_neg (by omega)]
  rw [show List.drop 4 ([(l.length : Int), r1, r2, r3] ++ encL l) = encL l from rfl, Int.toNat_natCast, many_enc l h]
  simp only
  rw [if_neg (by rw [errL_good (fun s hs => (h s hs).check)]; simp)]
end Go.Proofs.YtnbkffehhahckaaGreat

namespace Go.Proofs.YtnbkffehhahckaaGreat
set_option linter.unusedVariables false
structure Tr where
  t : Int
  i : Int
  k : Int
  deriving DecidableEq
structure Pr where
  n : Int
  p : Int
  s : List Int
  ts : List Tr
  deriving DecidableEq
def w2 (xs : List Int) (a : Nat) : Int := xs.getD a 0 * 256 + xs.getD (a + 1) 0
def attrV (xs : List Int) : Int × Bool := if xs.length = 0 then (0, true) else if xs.length ≠ 4 ∨ w2 xs 0 ≠ 32782 ∨ w2 xs 2 = 0 then (0, false) else (w2 xs 2, true)
def trsF : Nat → List Int → Option (List Tr)
  | 0, xs => if xs.length = 0 then some [] else none
  | f + 1, xs => if xs.length = 0 then some [] else if xs.length < 8 then none else if w2 xs 2 < 8 ∨ (xs.length : Int) < w2 xs 2 then none
    else if xs.getD 0 0 ≠ (if (xs.length : Int) = w2 xs 2 then 0 else 3) ∨ (attrV ((xs.drop 8).take ((w2 xs 2).toNat - 8))).2 = false then none
    else (trsF f (xs.drop (w2 xs 2).toNat)).map (⟨xs.getD 4 0, w2 xs 6, (attrV ((xs.drop 8).take ((w2 xs 2).toNat - 8))).1⟩ :: ·)
def trsV (xs : List Int) : Option (List Tr) := trsF xs.length xs
def prsF : Nat → List Int → Option (List Pr)
  | 0, xs => if xs.length = 0 then some [] else none
  | f + 1, xs => if xs.length = 0 then some [] else if xs.length < 8 then none else if w2 xs 2 < 8 ∨ (xs.length : Int) < w2 xs 2 then none
    else if xs.getD 0 0 ≠ (if (xs.length : Int) = w2 xs 2 then 0 else 2) ∨ w2 xs 2 < 8 + xs.getD 6 0 then none
    else match trsV ((xs.take (w2 xs 2).toNat).drop (8 + (xs.getD 6 0).toNat)) with
      | none => none
      | some ts => if (ts.length : Int) ≠ xs.getD 7 0 then none
        else (prsF f (xs.drop (w2 xs 2).toNat)).map (⟨xs.getD 4 0, xs.getD 5 0, (xs.drop 8).take (xs.getD 6 0).toNat, ts⟩ :: ·)
def prsV (xs : List Int) : Option (List Pr) := prsF xs.length xs
theorem trsF_fuel : ∀ (f g : Nat) (xs : List Int), xs.length ≤ f → xs.length ≤ g → trsF f xs = trsF g xs
  | 0, g, xs, h, _ => by
    have h0 : xs.length = 0 := by omega
    cases g <;> simp [trsF, h0]
  | f + 1, 0, xs, _, h => by
    have h0 : xs.length = 0 := by omega
    simp [trsF, h0]
  | f + 1, g + 1, xs, h1, h2 => by
    rw [trsF, trsF]
    by_cases h0 : xs.length = 0
    · rw [if_pos h0, if_pos h0]
    by_cases h8 : xs.length < 8
    · rw [if_neg h0, if_neg h0, if_pos h8, if_pos h8]
    by_cases hn : w2 xs 2 < 8 ∨ (xs.length : Int) < w2 xs 2
    · rw [if_neg h0, if_neg h0, if_neg h8, if_neg h8, if_pos hn, if_pos hn]
    rw [if_neg h0, if_neg h0, if_neg h8, if_neg h8, if_neg hn, if_neg hn, trsF_fuel f g _ (by rw [List.length_drop]; omega) (by rw [List.length_drop]; omega)]
theorem prsF_fuel : ∀ (f g : Nat) (xs : List Int), xs.length ≤ f → xs.length ≤ g → prsF f xs = prsF g xs
  | 0, g, xs, h, _ => by
    have h0 : xs.length = 0 := by omega
    cases g <;> simp [prsF, h0]
  | f + 1, 0, xs, _, h => by
    have h0 : xs.length = 0 := by omega
    simp [prsF, h0]
  | f + 1, g + 1, xs, h1, h2 => by
    rw [prsF, prsF]
    by_cases h0 : xs.length = 0
    · rw [if_pos h0, if_pos h0]
    by_cases h8 : xs.length < 8
    · rw [if_neg h0, if_neg h0, if_pos h8, if_pos h8]
    by_cases hn : w2 xs 2 < 8 ∨ (xs.length : Int) < w2 xs 2
    · rw [if_neg h0, if_neg h0, if_neg h8, if_neg h8, if_pos hn, if_pos hn]
    rw [if_neg h0, if_neg h0, if_neg h8, if_neg h8, if_neg hn, if_neg hn, prsF_fuel f g _ (by rw [List.length_drop]; omega) (by rw [List.length_drop]; omega)]
theorem trsV_nil (xs : List Int) (h : xs.length = 0) : trsV xs = some [] := by
  rw [trsV, h, trsF, if_pos h]
theorem prsV_nil (xs : List Int) (h : xs.length = 0) : prsV xs = some [] := by
  rw [prsV, h, prsF, if_pos h]
theorem trsV_step (xs : List Int) (h : xs.length ≠ 0) : trsV xs = if xs.length < 8 then none else if w2 xs 2 < 8 ∨ (xs.length : Int) < w2 xs 2 then none
    else if xs.getD 0 0 ≠ (if (xs.length : Int) = w2 xs 2 then 0 else 3) ∨ (attrV ((xs.drop 8).take ((w2 xs 2).toNat - 8))).2 = false then none
    else (trsV (xs.drop (w2 xs 2).toNat)).map (⟨xs.getD 4 0, w2 xs 6, (attrV ((xs.drop 8).take ((w2 xs 2).toNat - 8))).1⟩ :: ·) := by
  obtain ⟨m, hm⟩ : ∃ m, xs.length = m + 1 := ⟨xs.length - 1, by omega⟩
  rw [trsV, trsF_fuel xs.length (m + 1) xs (by omega) (by omega), trsF, if_neg h]
  by_cases h8 : xs.length < 8
  · rw [if_pos h8, if_pos h8]
  by_cases hn : w2 xs 2 < 8 ∨ (xs.length : Int) < w2 xs 2
  · rw [if_neg h8, if_neg h8, if_pos hn, if_pos hn]
  rw [if_neg h8, if_neg h8, if_neg hn, if_neg hn, trsV, trsF_fuel m _ _ (by rw [List.length_drop]; omega) (Nat.le_refl _)]
theorem prsV_step (xs : List Int) (h : xs.length ≠ 0) : prsV xs = if xs.length < 8 then none else if w2 xs 2 < 8 ∨ (xs.length : Int) < w2 xs 2 then none
    else if xs.getD 0 0 ≠ (if (xs.length : Int) = w2 xs 2 then 0 else 2) ∨ w2 xs 2 < 8 + xs.getD 6 0 then none
    else match trsV ((xs.take (w2 xs 2).toNat).drop (8 + (xs.getD 6 0).toNat)) with
      | none => none
      | some ts => if (ts.length : Int) ≠ xs.getD 7 0 then none
        else (prsV (xs.drop (w2 xs 2).toNat)).map (⟨xs.getD 4 0, xs.getD 5 0, (xs.drop 8).take (xs.getD 6 0).toNat, ts⟩ :: ·) := by
  obtain ⟨m, hm⟩ : ∃ m, xs.length = m + 1 := ⟨xs.length - 1, by omega⟩
  rw [prsV, prsF_fuel xs.length (m + 1) xs (by omega) (by omega), prsF, if_neg h]
  by_cases h8 : xs.length < 8
  · rw [if_pos h8, if_pos h8]
  by_cases hn : w2 xs 2 < 8 ∨ (xs.length : Int) < w2 xs 2
  · rw [if_neg h8, if_neg h8, if_pos hn, if_pos hn]
  rw [if_neg h8, if_neg h8, if_neg hn, if_neg hn, prsV, prsF_fuel m _ _ (by rw [List.length_drop]; omega) (Nat.le_refl _)]
def errTrs : List Tr → List Tr → Int
  | _, [] => 0
  | seen, x :: l => if x.t < 1 ∨ 5 < x.t ∨ x.i < 0 ∨ 65535 < x.i ∨ x.k < 0 ∨ 65535 < x.k then 5 else if x ∈ seen then 9 else errTrs (seen ++ [x]) l
def errPr (p : Pr) (n : Int) : Int :=
  if p.n ≠ n then 7 else if p.p < 1 ∨ 3 < p.p then 5 else if (p.p = 1 ∧ p.s.length ≠ 0 ∧ p.s.length ≠ 8) ∨ (p.p ≠ 1 ∧ p.s.length ≠ 4) then 20
  else if p.ts.length = 0 then 8 else if 24 < p.ts.length then 10 else errTrs [] p.ts
def errPrs : Int → List Pr → Int
  | _, [] => 0
  | n, p :: l => if errPr p n ≠ 0 then errPr p n else errPrs (n + 1) l
def checkP (l : List Pr) : Int := if l.length = 0 then 8 else if 8 < l.length then 10 else errPrs 1 l
def parseP (xs : List Int) : List Pr × Int := if xs.length = 0 then ([], 1) else match prsV xs with
  | none => ([], 4)
  | some l => if checkP l ≠ 0 then ([], checkP l) else (l, 0)
def lenT (x : Tr) : Int := if x.k ≠ 0 then 12 else 8
def encT (more : Int) (x : Tr) : List Int := [more, 0] ++ (be 2 (lenT x) ++ ([x.t % 256, 0] ++ (be 2 x.i ++ (if x.k ≠ 0 then be 2 32782 ++ be 2 x.k else []))))
def encTs : List Tr → List Int
  | [] => []
  | x :: l => encT (if l.length = 0 then 0 else 3) x ++ encTs l
def encP (more : Int) (p : Pr) : List Int := [more, 0] ++ (be 2 (8 + (p.s.length : Int) + (encTs p.ts).length) ++ ([p.n % 256, p.p % 256, (p.s.length : Int) % 256, (p.ts.length : Int) % 256] ++ (p.s ++ encTs p.ts)))
def encPs : List Pr → List Int
  | [] => []
  | p :: l => encP (if l.length = 0 then 0 else 2) p ++ encPs l
def buildP (l : List Pr) : List Int × Int := if checkP l ≠ 0 then ([], checkP l) else (encPs l, 0)
theorem be2' (v : Int) (h : 0 ≤ v ∧ v ≤ 65535) : be 2 v = [v / 256, v % 256] := by
  simp [be]
  omega
structure OkT (x : Tr) : Prop where
  t : 1 ≤ x.t ∧ x.t ≤ 5
  i : 0 ≤ x.i ∧ x.i ≤ 65535
  k : 0 ≤ x.k ∧ x.k ≤ 65535
theorem errTrs_ok : ∀ (l seen : List Tr), errTrs seen l = 0 → ∀ x ∈ l, OkT x
  | [], _, _, x, hx => by cases hx
  | y :: l, seen, h, x, hx => by
    unfold errTrs at h
    split at h
    · omega
    split at h
    · omega
    rename_i h1 h2
    rcases List.mem_cons.1 hx with rfl | hx
    · exact ⟨by omega, by omega, by omega⟩
    · exact errTrs_ok l _ h x hx
theorem encT_len (more : Int) (x : Tr) : ((encT more x).length : Int) = lenT x := by
  unfold encT lenT
  split <;> simp [be_len]
theorem encT_eq (more : Int) (x : Tr) (h : OkT x) : encT more x = [more, 0, 0, lenT x, x.t, 0, x.i / 256, x.i % 256] ++ (if x.k ≠ 0 then [128, 14, x.k / 256, x.k % 256] else []) := by
  have ht := h.t
  have e1 : x.t % 256 = x.t := by omega
  unfold encT
  rw [be2' _ h.i, e1]
  unfold lenT
  split
  · rw [be2' 12 (by omega), be2' 32782 (by omega), be2' _ h.k]
    simp
  · rw [be2' 8 (by omega)]
    simp
theorem attr_enc (x : Tr) (h : OkT x) : attrV (if x.k ≠ 0 then [128, 14, x.k / 256, x.k % 256] else []) = (x.k, true) := by
  have hk := h.k
  split
  · rename_i h0
    unfold attrV
    rw [if_neg (by simp), if_neg (by simp [w2]; omega)]
    simp [w2]
    omega
  · rename_i h0
    have : x.k = 0 := by omega
    simp [attrV, this]
theorem encTs_cons (x : Tr) (l : List Tr) : ((encTs (x :: l)).length : Int) = lenT x + (encTs l).length := by
  have := encT_len (if l.length = 0 then 0 else 3) x
  rw [encTs, List.length_append]
  omega
theorem encTs_zero (l : List Tr) : (encTs l).length = 0 ↔ l.length = 0 := by
  cases l with
  | nil => simp [encTs]
  | cons y m =>
    have h1 := encTs_cons y m
    have h2 : lenT y = 8 ∨ lenT y = 12 := by unfold lenT; split <;> omega
    simp only [List.length_cons]
    constructor <;> intro h <;> omega
theorem encTs_le : ∀ l : List Tr, (encTs l).length ≤ 12 * l.length
  | [] => by simp [encTs]
  | x :: l => by
    have h1 := encTs_cons x l
    have h2 : lenT x = 8 ∨ lenT x = 12 := by unfold lenT; split <;> omega
    have h3 := encTs_le l
    simp only [List.length_cons]
    omega
theorem trs_read : ∀ (l : List Tr), (∀ x ∈ l, OkT x) → trsV (encTs l) = some l
  | [], _ => trsV_nil _ rfl
  | x :: l, h => by
    have hx := h x (by simp)
    have hl : lenT x = 8 ∨ lenT x = 12 := by unfold lenT; split <;> omega
    have hle := encT_len (if l.length = 0 then 0 else 3) x
    have hlen : ((encTs (x :: l)).length : Int) = lenT x + (encTs l).length := by rw [encTs, List.length_append]; omega
    have heq : encTs (x :: l) = [(if l.length = 0 then 0 else 3), 0, 0, lenT x, x.t, 0, x.i / 256, x.i % 256] ++ ((if x.k ≠ 0 then [128, 14, x.k / 256, x.k % 256] else []) ++ encTs l) := by rw [encTs, encT_eq _ _ hx, List.append_assoc]
    have hw : w2 (encTs (x :: l)) 2 = lenT x := by rw [heq]; simp [w2]
    have hn0 := encTs_zero l
    have hat : ((encTs (x :: l)).drop 8).take ((lenT x).toNat - 8) = (if x.k ≠ 0 then [128, 14, x.k / 256, x.k % 256] else []) := by
      rw [heq]
      unfold lenT
      split <;> simp
    have hdr : (encTs (x :: l)).drop (lenT x).toNat = encTs l := by
      have : (lenT x).toNat = (encT (if l.length = 0 then 0 else 3) x).length := by omega
      rw [this, encTs, List.drop_left]
    have h0 : (encTs (x :: l)).getD 0 0 = if l.length = 0 then 0 else 3 := by rw [heq]; simp
    have h4 : (encTs (x :: l)).getD 4 0 = x.t := by rw [heq]; simp
    have h6 : w2 (encTs (x :: l)) 6 = x.i := by rw [heq]; simp [w2]; omega
    rw [trsV_step _ (by omega), if_neg (by omega), hw, if_neg (by omega), hat, attr_enc x hx, h0, h4, h6, hdr, trs_read l (fun y hy => h y (by simp [hy]))]
    rw [if_neg]
    · simp
    · simp only [Bool.true_eq_false, or_false, ne_eq, Decidable.not_not]
      by_cases hz : l.length = 0
      · rw [if_pos hz, if_pos (by have := hn0.2 hz; omega)]
      · rw [if_neg hz, if_neg (by have := mt hn0.1 hz; omega)]
structure OkP (q : Pr) : Prop where
  n : 0 ≤ q.n ∧ q.n ≤ 255
  p : 1 ≤ q.p ∧ q.p ≤ 3
  s : q.s.length ≤ 8
  some_ : q.ts.length ≠ 0
  few : q.ts.length ≤ 24
  ts : ∀ x ∈ q.ts, OkT x
theorem errPr_ok {p : Pr} {n : Int} (h : errPr p n = 0) (h0 : 0 ≤ n) (h1 : n ≤ 255) : OkP p := by
  unfold errPr at h
  split at h
  · omega
  split at h
  · omega
  split at h
  · omega
  split at h
  · omega
  split at h
  · omega
  exact ⟨by omega, by omega, by omega, by omega, by omega, errTrs_ok _ _ h⟩
theorem errPrs_ok : ∀ (l : List Pr) (n : Int), errPrs n l = 0 → 0 ≤ n → n + l.length ≤ 256 → ∀ p ∈ l, OkP p
  | [], _, _, _, _, p, hp => by cases hp
  | q :: l, n, h, h0, h1, p, hp => by
    simp only [List.length_cons] at h1
    unfold errPrs at h
    split at h
    · rename_i h2
      exact absurd h h2
    · rename_i h2
      rcases List.mem_cons.1 hp with rfl | hp
      · exact errPr_ok (by omega) h0 (by omega)
      · exact errPrs_ok l (n + 1) h (by omega) (by omega) p hp
theorem checkP_ok {l : List Pr} (h : checkP l = 0) : l.length ≠ 0 ∧ l.length ≤ 8 ∧ ∀ p ∈ l, OkP p := by
  unfold checkP at h
  split at h
  · omega
  split at h
  · omega
  exact ⟨by omega, by omega, errPrs_ok l 1 h (by omega) (by omega)⟩
def lenP (p : Pr) : Nat := 8 + p.s.length + (encTs p.ts).length
theorem lenP_le {p : Pr} (h : OkP p) : lenP p ≤ 304 := by
  have := encTs_le p.ts
  have := h.s
  have := h.few
  unfold lenP
  omega
theorem encP_len (more : Int) (p : Pr) : (encP more p).length = lenP p := by
  simp [encP, lenP, be_len]
  omega
theorem encP_eq (more : Int) (p : Pr) (h : OkP p) : encP more p = [more, 0, (lenP p : Int) / 256, (lenP p : Int) % 256, p.n, p.p, (p.s.length : Int), (p.ts.length : Int)] ++ (p.s ++ encTs p.ts) := by
  have hn := h.n
  have hp := h.p
  have hs := h.s
  have hf := h.few
  have hl := lenP_le h
  have e1 : p.n % 256 = p.n := by omega
  have e2 : p.p % 256 = p.p := by omega
  have e3 : (p.s.length : Int) % 256 = p.s.length := by omega
  have e4 : (p.ts.length : Int) % 256 = p.ts.length := by omega
  have e5 : 8 + (p.s.length : Int) + ((encTs p.ts).length : Int) = (lenP p : Int) := by unfold lenP; omega
  unfold encP
  rw [e1, e2, e3, e4, e5, be2' _ (by omega)]
  simp
structure HeadP (p : Pr) (more : Int) (ys xs : List Int) : Prop where
  len : xs.length = lenP p + ys.length
  b0 : xs.getD 0 0 = more
  b2 : w2 xs 2 = lenP p
  b4 : xs.getD 4 0 = p.n
  b5 : xs.getD 5 0 = p.p
  b6 : xs.getD 6 0 = p.s.length
  b7 : xs.getD 7 0 = p.ts.length
  spi : (xs.drop 8).take p.s.length = p.s
  trs : (xs.take (lenP p)).drop (8 + p.s.length) = encTs p.ts
  rest : xs.drop (lenP p) = ys
theorem head_noise (p : Pr) (h : OkP p) (more z : Int) (ys : List Int) : HeadP p more ys ((encP more p ++ ys).set 1 z) := by
  have hl := encP_len more p
  have hle := lenP_le h
  have hge : 8 ≤ lenP p := by unfold lenP; omega
  have heq : (encP more p ++ ys).set 1 z = [more, z, (lenP p : Int) / 256, (lenP p : Int) % 256, p.n, p.p, (p.s.length : Int), (p.ts.length : Int)] ++ (p.s ++ (encTs p.ts ++ ys)) := by rw [encP_eq _ _ h]; simp
  have heq2 : (encP more p ++ ys).set 1 z = ([more, z, (lenP p : Int) / 256, (lenP p : Int) % 256, p.n, p.p, (p.s.length : Int), (p.ts.length : Int)] ++ (p.s ++ encTs p.ts)) ++ ys := by rw [heq]; simp
  have hl2 : ([more, z, (lenP p : Int) / 256, (lenP p : Int) % 256, p.n, p.p, (p.s.length : Int), (p.ts.length : Int)] ++ (p.s ++ encTs p.ts)).length = lenP p := by simp [lenP]; omega
  refine ⟨by rw [List.length_set, List.length_append, hl], ?_, ?_, ?_, ?_, ?_, ?_, ?_, ?_, ?_⟩
  · rw [heq]; simp
  · rw [heq]; simp [w2]; omega
  · rw [heq]; simp
  · rw [heq]; simp
  · rw [heq]; simp
  · rw [heq]; simp
  · rw [heq]; simp
  · rw [heq2, List.take_left' hl2]
    have : 8 + p.s.length = ([more, z, (lenP p : Int) / 256, (lenP p : Int) % 256, p.n, p.p, (p.s.length : Int), (p.ts.length : Int)] ++ p.s).length := by simp; omega
    rw [← List.append_assoc, this, List.drop_left]
  · rw [heq2, List.drop_left' hl2]
theorem head_plain (p : Pr) (h : OkP p) (more : Int) (ys : List Int) : HeadP p more ys (encP more p ++ ys) := by
  have := head_noise p h more ((encP more p ++ ys).getD 1 0) ys
  have e : (encP more p ++ ys).set 1 ((encP more p ++ ys).getD 1 0) = encP more p ++ ys := by
    have hge : 1 < (encP more p ++ ys).length := by rw [List.length_append, encP_len]; unfold lenP; omega
    apply List.ext_getElem (by simp)
    intro i h1 h2
    rw [List.getElem_set]
    split
    · rename_i hi
      subst hi
      simp [List.getD_eq_getElem?_getD, List.getElem?_eq_getElem hge]
    · rfl
  rw [e] at this
  exact this
theorem HeadP.step {p : Pr} {more : Int} {ys xs : List Int} (hh : HeadP p more ys xs) (h : OkP p) : prsV xs = if more ≠ (if ys.length = 0 then 0 else 2) then none else (prsV ys).map (p :: ·) := by
  have hge : 8 ≤ lenP p := by unfold lenP; omega
  have hl := hh.len
  have hs := hh.spi
  have ht := hh.trs
  have hsp : 8 + p.s.length ≤ lenP p := by unfold lenP; omega
  rw [prsV_step _ (by omega), if_neg (by omega), hh.b2, if_neg (by omega), hh.b0, hh.b6]
  have e1 : ((8 : Nat) + ((p.s.length : Int)).toNat) = 8 + p.s.length := by omega
  have e2 : ((lenP p : Int)).toNat = lenP p := by omega
  by_cases hm : more ≠ (if ys.length = 0 then 0 else 2)
  · rw [if_pos hm, if_pos]
    left
    intro he
    apply hm
    rw [he]
    by_cases hy : ys.length = 0
    · rw [if_pos hy, if_pos (by omega)]
    · rw [if_neg hy, if_neg (by omega)]
  · rw [if_neg hm, if_neg]
    · rw [e2, e1, ht, trs_read _ h.ts]
      simp only
      rw [hh.b7, if_neg (by simp), hh.rest, hh.b4, hh.b5, Int.toNat_natCast, hs]
    · rintro (h1 | h1)
      · apply h1
        rw [Decidable.not_not.1 hm]
        by_cases hy : ys.length = 0
        · rw [if_pos hy, if_pos (by omega)]
        · rw [if_neg hy, if_neg (by omega)]
      · omega
theorem encPs_cons (p : Pr) (l : List Pr) : encPs (p :: l) = encP (if l.length = 0 then 0 else 2) p ++ encPs l := rfl
theorem encPs_zero (l : List Pr) : (encPs l).length = 0 ↔ l.length = 0 := by
  cases l with
  | nil => simp [encPs]
  | cons y m =>
    rw [encPs_cons, List.length_append, encP_len]
    simp only [List.length_cons]
    unfold lenP
    constructor <;> intro h <;> omega
theorem more_ok (l : List Pr) : ¬ ((if l.length = 0 then (0 : Int) else 2) ≠ (if (encPs l).length = 0 then 0 else 2)) := by
  have := encPs_zero l
  by_cases h : l.length = 0
  · rw [if_pos h, if_pos (this.2 h)]
    simp
  · rw [if_neg h, if_neg (fun e => h (this.1 e))]
    simp
theorem prs_read : ∀ (l : List Pr), (∀ p ∈ l, OkP p) → prsV (encPs l) = some l
  | [], _ => prsV_nil _ rfl
  | p :: l, h => by
    rw [encPs_cons, (head_plain p (h p (by simp)) _ _).step (h p (by simp)), if_neg (more_ok l), prs_read l (fun q hq => h q (by simp [hq]))]
    rfl
theorem parse_build {l : List Pr} (h : checkP l = 0) : parseP (encPs l) = (l, 0) := by
  obtain ⟨h1, h2, h3⟩ := checkP_ok h
  rw [parseP, if_neg (fun e => h1 ((encPs_zero l).1 e)), prs_read l h3]
  simp [h]
end Go.Proofs.YtnbkffehhahckaaGreat

namespace Go.Proofs.YtnbkffehhahckaaGreat
open Go.RowKit
set_option linter.unusedVariables false
def KTr : KindR Tr where
  e := 109
  k := 3
  cs x := [.int .i64 x.t, .int .i64 x.i, .int .i64 x.k]
  len _ := rfl
  one x u hu := by
    simp at hu
    rcases hu with rfl | rfl | rfl <;> rfl
  pos := by decide
def IntT (x : Tr) : Prop := (-9223372036854775808 ≤ x.t ∧ x.t ≤ 9223372036854775807) ∧ (-9223372036854775808 ≤ x.i ∧ x.i ≤ 9223372036854775807) ∧ (-9223372036854775808 ≤ x.k ∧ x.k ≤ 9223372036854775807)
def NTr : NestR Tr where
  ts := []
  ok _ _ x := IntT x
  keep h _ _ := h
  mono h _ := h
def DTr : ReadN Tr where
  ok _ x := IntT x
  keep h _ := h
structure PrP where
  n : Int
  p : Int
  sp : Option Addr
  sn : Nat
  sc : Nat
  s : List Int
  tp : Option Addr
  tn : Nat
  tc : Nat
  ts : List Tr
def PrP.pr (x : PrP) : Pr := ⟨x.n, x.p, x.s, x.ts⟩
def KPr : KindR PrP where
  e := 106
  k := 4
  cs x := [.int .i64 x.n, .int .i64 x.p, .slice x.sp x.sn x.sc, .slice x.tp x.tn x.tc]
  len _ := rfl
  one x u hu := by
    simp at hu
    rcases hu with rfl | rfl | rfl | rfl <;> rfl
  pos := by decide
def IntP (x : PrP) : Prop := (-9223372036854775808 ≤ x.n ∧ x.n ≤ 9223372036854775807) ∧ (-9223372036854775808 ≤ x.p ∧ x.p ≤ 9223372036854775807)
structure OkN (w : World) (base : Nat) (x : PrP) : Prop where
  int : IntP x
  s : Bod w base x.sp x.sn x.sc x.s
  ts : RowG KTr NTr w base (.slice x.tp x.tn x.tc) x.ts
theorem RowG.off {w w' : World} {base : Nat} {v : Value} {l : List Tr} {row : Option Nat} (h : RowG KTr NTr w base v l) (hg : w.grownBy w' row) (hr : OffT [109] w base row) : RowG KTr NTr w' base v l := by
  refine h.grown hg (fun r hrow hv => ?_) (fun r hrow => Or.inr (fun _ _ _ _ hm => by cases hm))
  have h1 := h.lt r hv
  rcases hr r hrow with h2 | h2
  · omega
  · rcases h.own.2 with ⟨rfl, _⟩ | ⟨g, cap, cur, rfl, hg2, hh, _⟩
    · simp [Value.ownBlock] at hv
    · simp [Value.ownBlock] at hv
      subst hv
      exact h2 _ _ _ hh (by simp [KTr])
def NPr : NestR PrP where
  ts := [5, 109]
  ok := OkN
  keep h hg hr := ⟨h.int, h.s.grown hg (fun r hrow => by
    rcases hr r hrow with h1 | h1
    · exact Or.inl h1
    · exact Or.inr (fun cur fz e => h1 _ _ _ e (by simp))), h.ts.off hg (hr.sub (by simp))⟩
  mono h hb := ⟨h.int, h.s.mono hb, h.ts.mono hb⟩
structure OkD (w : World) (x : PrP) : Prop where
  int : IntP x
  s : Byt w x.sp x.sn x.sc x.s
  ts : RdG KTr DTr w x.tp x.tn x.tc x.ts
def DPr : ReadN PrP where
  ok := OkD
  keep h hk := ⟨h.int, h.s.keep hk, h.ts.keep hk⟩
theorem OkN.rd {w : World} {base : Nat} {x : PrP} (h : OkN w base x) : OkD w x := by
  have hl : x.ts.length = x.tn := by
    rcases h.ts.form rfl with ⟨p, c, e⟩
    simp at e
    exact e.2.1.symm
  obtain ⟨p, c, e, hr⟩ := h.ts.rd (D := DTr) hl (fun _ h => h)
  simp at e
  obtain ⟨rfl, rfl⟩ := e
  exact ⟨h.int, h.s.byt, hr⟩
theorem Tryz.infoTr : (Tryz.prog.info? 109).map (fun i => (i.zero, i.size, i.bytes)) = some (some (.agg #[.int .i64 0, .int .i64 0, .int .i64 0]), 3, 24) := by kernel_rfl
theorem Tryz.infoPr : (Tryz.prog.info? 106).map (fun i => (i.zero, i.size, i.bytes)) = some (some (.agg #[.int .i64 0, .int .i64 0, .slice none 0 0, .slice none 0 0]), 4, 64) := by kernel_rfl
theorem knownTr : KnownR Tryz.prog KTr 104 24 := by
  refine ⟨Tryz.underlying104, ?_⟩
  obtain ⟨i0, hi, hz0, hz1, hz2⟩ := info_parts Tryz.infoTr
  exact ⟨i0, _, hi, hz0, hz1, hz2, rfl⟩
theorem knownPr : KnownR Tryz.prog KPr 42 64 := by
  refine ⟨Tryz.underlying42, ?_⟩
  obtain ⟨i0, hi, hz0, hz1, hz2⟩ := info_parts Tryz.infoPr
  exact ⟨i0, _, hi, hz0, hz1, hz2, rfl⟩
theorem srcTr (w : World) (t i k : Int) (T : TypeId) : SrcG KTr (w.alloc (.cells #[.int .i64 t, .int .i64 i, .int .i64 k] T)) (some ⟨w.heap.size, 0, none⟩) 1 [⟨t, i, k⟩] := SrcG.new KTr w [⟨t, i, k⟩] T
theorem srcPr (w : World) (x : PrP) (T : TypeId) : SrcG KPr (w.alloc (.cells #[.int .i64 x.n, .int .i64 x.p, .slice x.sp x.sn x.sc, .slice x.tp x.tn x.tc] T)) (some ⟨w.heap.size, 0, none⟩) 1 [x] := SrcG.new KPr w [x] T
end Go.Proofs.YtnbkffehhahckaaGreat

namespace Go.Proofs.YtnbkffehhahckaaGreat
open Go.RowKit
set_option linter.unusedVariables false
theorem checkS_cases (s : Sl) (b1 b2 b3 b4 : Bool) (h1 : validA s.lo = b1) (h2 : validA s.hi = b2) (h3 : ltA s.hi s.lo = b3) (h4 : portsOk s.a s.b = b4) (z : Int) (h : checkS s = z) :
    (b1 = false ∧ z = 15) ∨ (b1 = true ∧ b2 = false ∧ z = 15) ∨ (b1 = true ∧ b2 = true ∧ (s.lo.f != s.hi.f) = true ∧ z = 15) ∨ (b1 = true ∧ b2 = true ∧ (s.lo.f != s.hi.f) = false ∧ b3 = true ∧ z = 5) ∨
    (b1 = true ∧ b2 = true ∧ (s.lo.f != s.hi.f) = false ∧ b3 = false ∧ s.p < 0 ∧ z = 5) ∨ (b1 = true ∧ b2 = true ∧ (s.lo.f != s.hi.f) = false ∧ b3 = false ∧ ¬ s.p < 0 ∧ s.p > 255 ∧ z = 5) ∨
    (b1 = true ∧ b2 = true ∧ (s.lo.f != s.hi.f) = false ∧ b3 = false ∧ ¬ s.p < 0 ∧ ¬ s.p > 255 ∧ b4 = false ∧ z = 5) ∨ (b1 = true ∧ b2 = true ∧ (s.lo.f != s.hi.f) = false ∧ b3 = false ∧ ¬ s.p < 0 ∧ ¬ s.p > 255 ∧ b4 = true ∧ z = 0) := by
  unfold checkS at h
  rw [h1, h2, h3, h4] at h
  subst h
  by_cases hf : s.lo.f = s.hi.f <;> by_cases hp : s.p < 0 <;> by_cases hq : s.p > 255 <;> cases b1 <;> cases b2 <;> cases b3 <;> cases b4 <;> simp_all
set_option maxHeartbeats 1600000 in
theorem scheck_at (s : Sl) (z : Int) (hz : checkS s = z) (w : World) :
    Calls Tryz.prog 111 #[(.agg #[.int .i64 s.p, .int .i64 s.a, .int .i64 s.b, .int .i64 s.lo.f, .int .u64 s.lo.h, .int .u64 s.lo.l, .int .i64 s.hi.f, .int .u64 s.hi.h, .int .u64 s.hi.l])] w fun e w' => e = .returned (.int .i64 z) ∧ Below w.heap.size w w' := by
  obtain ⟨b1, h1⟩ : ∃ b, validA s.lo = b := ⟨_, rfl⟩
  obtain ⟨b2, h2⟩ : ∃ b, validA s.hi = b := ⟨_, rfl⟩
  obtain ⟨b3, h3⟩ : ∃ b, ltA s.hi s.lo = b := ⟨_, rfl⟩
  obtain ⟨b4, h4⟩ : ∃ b, portsOk s.a s.b = b := ⟨_, rfl⟩
  have hc := checkS_cases s b1 b2 b3 b4 h1 h2 h3 h4 z hz
  have HV := hidden (valid_any s.lo)
  have HU := hidden (valid_any s.hi)
  have HL := hidden (sless_any s.hi s.lo)
  have HQ := hidden (arePorts_any s.a s.b)
  rw [h1] at HV
  rw [h2] at HU
  rw [h3] at HL
  rw [h4] at HQ
  have HB := hidden ((Below.refl w.heap.size w).alloc (Nat.le_refl _) (.cells #[.int .i64 s.p, .int .i64 s.a, .int .i64 s.b, .int .i64 s.lo.f, .int .u64 s.lo.h, .int .u64 s.lo.l, .int .i64 s.hi.f, .int .u64 s.hi.h, .int .u64 s.hi.l] 113))
  have HS := hidden (SlIn.new w s 113)
  clear h1 h2 h3 h4 hz
  rcases hc with ⟨rfl, rfl⟩ | ⟨rfl, rfl, rfl⟩ | ⟨rfl, rfl, k1, rfl⟩ | ⟨rfl, rfl, k1, rfl, rfl⟩ | ⟨rfl, rfl, k1, rfl, k2, rfl⟩ | ⟨rfl, rfl, k1, rfl, k2, k3, rfl⟩ | ⟨rfl, rfl, k1, rfl, k2, k3, rfl, rfl⟩ | ⟨rfl, rfl, k1, rfl, k2, k3, rfl, rfl⟩
  all_goals
    go_enter Tryz.func111, Tryz.ntmps111
    go_wp2_with (first
      | (go_at_call 118; (first | (with_reducible refine (HV.out _).mono ?_) | (with_reducible refine (HU.out _).mono ?_)); rintro e w1 ⟨rfl, hb⟩; replace HB := hidden (HB.out.trans (hb.mono HB.out.size)); replace HS := hidden (HS.out.below hb); clear hb; (try clear c0 c1 c2 c3 c4 c5 c6 c7 c8 fr); obtain ⟨c0, c1, c2, c3, c4, c5, c6, c7, c8, fr⟩ := HS.out)
      | (go_at_call 119; (with_reducible refine (HL.out _).mono ?_); rintro e w1 ⟨rfl, hb⟩; replace HB := hidden (HB.out.trans (hb.mono HB.out.size)); replace HS := hidden (HS.out.below hb); clear hb; clear c0 c1 c2 c3 c4 c5 c6 c7 c8 fr; obtain ⟨c0, c1, c2, c3, c4, c5, c6, c7, c8, fr⟩ := HS.out)
      | (go_at_call 120; (with_reducible refine (HQ.out _).mono ?_); rintro e w1 ⟨rfl, rfl⟩))
    go_ret
    exact ⟨rfl, HB.out⟩
end Go.Proofs.YtnbkffehhahckaaGreat

namespace Go.Proofs.YtnbkffehhahckaaGreat
open Go.RowKit
set_option linter.unusedVariables false
theorem rvalid_any (x : Ad) (w : World) :
    Calls Tryz.prog 105 #[(.agg #[.int .i64 x.f, .int .u64 x.h, .int .u64 x.l])] w fun e w' => e = .returned (.bool (validA x)) ∧ Below w.heap.size w w' := by
  go_enter Tryz.func105, Tryz.ntmps105
  go_wp2
  all_goals go_ret
  all_goals refine ⟨?_, (Below.refl _ _).alloc (Nat.le_refl _) _⟩
  all_goals simp_all [validA]
  all_goals (rw [Bool.eq_iff_iff]; simp)
end Go.Proofs.YtnbkffehhahckaaGreat

namespace Go.Proofs.YtnbkffehhahckaaGreat
open Go.RowKit
set_option linter.unusedVariables false
def BytesPut (w : World) (xs : List Int) (e : Ending) (w' : World) : Prop := ∃ v, e = .returned v ∧ Own w' w.heap.size 5 v xs ∧ Below w.heap.size w w'
set_option maxHeartbeats 400000 in
theorem put_yes (p : Option Addr) (n c : Nat) (xs : List Int) (w : World) (h : Byt w p n c xs) (hb : n ≤ 140737488355000) (v : Int) (hv : 0 ≤ v ∧ v ≤ 18446744073709551615) (k : Nat) (h1 : 1 ≤ k) (h8 : k ≤ 8) :
    Calls Tryz.prog 34 #[.slice p n c, .int .u64 v, .int .i64 k] w (BytesPut w (xs ++ be k v)) := by
  have hn := h.le
  have hl := h.len
  obtain ⟨i0, hi, hz0, hz1, hz2⟩ := info_parts Tryz.infoByte
  have H := hidden h
  clear h
  go_enter Tryz.func34, Tryz.ntmps34
  go_wp2_with (first | (go_at_call 49; refine (isWidth_yes _ _ (by omega) (by omega)).mono ?_; rintro e w' ⟨rfl, rfl⟩) | (at_make; refine wpList_make_byt _ rfl _ _ 22 rfl w.heap.size 5 i0 Tryz.underlying22 hi hz0 hz1 hz2 _ _ _ _ n (n + k) rfl rfl ?m1 ?m2 ?m3 ?m4 (Nat.le_refl _) ?_))
  case m1 => rfl
  case m2 => simp
  case m3 => omega
  case m4 => omega
  intro w1 hown hg
  have hbel := (Below.refl w.heap.size w).grown hg (Nat.le_refl _) (by intro k hk; simp at hk)
  have HS := hidden (H.out.below hbel)
  clear hg
  go_wp2_with (refine wpList_copy_byt _ rfl (.tmp 21) (.tmp 22) 22 rfl w.heap.size 5 Tryz.underlying22 Tryz.sizeByte w.heap.size n (n + k) (List.replicate n 0) rfl ?d1 hown p c xs rfl HS.out ?_)
  try (case d1 => simp)
  intro w2 hown2 hg2
  have hbel2 := hbel.grown hg2 hbel.size (by intro k hk; simp at hk; omega)
  clear hown hbel hg2 HS
  go_wp2
  go_loopw [7, 8] (fun u i wr => ∃ j : Nat, j ≤ k ∧ i = .int .i64 ((j : Int) - 1) ∧ ∃ ys, ys ++ be j v = xs ++ be k v ∧ Own wr w.heap.size 5 u ys ∧ Below w.heap.size w wr) (fun _ i _ => (intOf i + 1).toNat)
  case atStart => exact ⟨k, Nat.le_refl _, rfl, xs, rfl, hown2, hbel2⟩
  case round =>
    obtain ⟨j, hj, rfl, ys, hys, ho, hbl⟩ := hrel
    by_cases hpos : 1 ≤ j
    · obtain ⟨j, rfl⟩ : ∃ m, j = m + 1 := ⟨j - 1, by omega⟩
      have hlen : ys.length ≤ n + 8 := by
        have := congrArg List.length hys
        simp only [List.length_append, be_len] at this
        omega
      have HY := hidden hys
      have HO := hidden ho
      clear hys ho H
      go_wp2_with (at_builtin; refine wpList_append_byt _ rfl _ _ 22 rfl w.heap.size 5 i0 (.int .u8 0) Tryz.underlying22 hi hz0 hz1 hz2 rfl _ _ rfl (HO.out.alloc _) _ _ _ _ _ rfl (one_byte _ _ (v / 2 ^ (8 * j) % 256) ?c0 ?c1) rfl ?c2 ?c3 ?_)
      case c0 => exact byte_rng _
      case c1 => rw [World.cell?_alloc_at _ _ _ _ rfl]; rfl
      case c2 => omega
      case c3 => have := hbl.size; simp; omega
      intro u' w2 hown2 hg2
      have HB2 := hidden ((hbl.alloc hbl.size _).grown hg2 (by have := hbl.size; simp; omega) (fun g hg => (HO.out.lt g hg).1))
      clear hbl hg2 hbel2
      go_wp2
      go_roundw
      case rel => exact ⟨j, by omega, rfl, _, be_next _ _ _ _ HY.out, hown2, HB2.out⟩
      case measure => simp [intOf] <;> omega
    · obtain rfl : j = 0 := by omega
      have e1 : ys = xs ++ be k v := by simpa [be] using hys
      subst e1
      have HO := hidden ho
      have HB := hidden hbl
      clear ho hbl hys H hbel2 hown2
      go_wp2
      go_ret
      exact ⟨_, rfl, HO.out, HB.out⟩
end Go.Proofs.YtnbkffehhahckaaGreat

namespace Go.Proofs.YtnbkffehhahckaaGreat
open Go.RowKit
set_option linter.unusedVariables false
set_option maxHeartbeats 800000 in
theorem rcompare_any (p q : Option Addr) (n c m d : Nat) (xs ys : List Int) (w : World) (h : Byt w p n c xs) (k : Byt w q m d ys) :
    Calls Tryz.prog 83 #[.slice p n c, .slice q m d] w fun e w' => e = .returned (.int .i64 (cmpR xs ys)) ∧ ∃ r, w' = w.drewN r := by
  have hln := h.le
  have hlm := k.le
  have HX := hidden h.len
  have HY := hidden k.len
  have HC := hidden (fun j (hj : j < n) => (show ∃ b o, p = some ⟨b, o, none⟩ ∧ w.cell? ⟨b, o + j, none⟩ = some (.int .u8 (xs.getD j 0)) by
    obtain ⟨b, o, e, hc⟩ := h.at_ (by omega)
    exact ⟨b, o, e, hc j hj⟩))
  have HD := hidden (fun j (hj : j < m) => (show ∃ b o, q = some ⟨b, o, none⟩ ∧ w.cell? ⟨b, o + j, none⟩ = some (.int .u8 (ys.getD j 0)) by
    obtain ⟨b, o, e, hc⟩ := k.at_ (by omega)
    exact ⟨b, o, e, hc j hj⟩))
  have HR := hidden h.rng
  have HS := hidden k.rng
  clear h k
  go_enter Tryz.func83, Tryz.ntmps83
  go_wp2
  go_loopw [5] (fun i wr => ∃ j : Nat, j ≤ n ∧ j ≤ m ∧ i = .int .i64 j ∧ cmpR xs ys = cmpR (xs.drop j) (ys.drop j) ∧ ∃ r, wr = w.drewN r) (fun i _ => n - (intOf i).toNat)
  case atStart => exact ⟨0, by omega, by omega, rfl, rfl, 0, rfl⟩
  case round =>
    obtain ⟨j, hjn, hjm, rfl, he, r, rfl⟩ := hrel
    by_cases h1 : j < n
    · by_cases h2 : j < m
      · obtain ⟨b, o, rfl, hc1⟩ := HC.out j h1
        obtain ⟨b', o', rfl, hc2⟩ := HD.out j h2
        have hs := cmpR_step xs ys j (by rw [HX.out]; exact h1) (by rw [HY.out]; exact h2) he
        have r1 := rng_getD HR.out j
        have r2 := rng_getD HS.out j
        clear he
        generalize xs.getD j 0 = x at *
        generalize ys.getD j 0 = y at *
        by_cases hl : x < y
        · have E := hidden (hs.1 hl)
          clear hs
          go_wp2
          go_quiet (fail)
          go_wp2
          go_ret
          refine ⟨by rw [E.out]; rfl, ?_⟩
          simp only [World.drewN_drewN]
          exact ⟨_, rfl⟩
        · by_cases hg : y < x
          · have E := hidden (hs.2.1 hg)
            clear hs
            go_wp2
            go_quiet (fail)
            go_wp2
            go_quiet (fail)
            go_wp2
            go_ret
            refine ⟨by rw [E.out]; rfl, ?_⟩
            simp only [World.drewN_drewN]
            exact ⟨_, rfl⟩
          · have E := hidden (hs.2.2 (by omega))
            clear hs
            go_wp2
            go_quiet (fail)
            go_wp2
            go_quiet (fail)
            go_wp2
            go_roundw
            case rel => exact ⟨j + 1, by omega, by omega, by go_num, E.out, _, rfl⟩
            case measure => simp [intOf]; omega
      · have E := hidden (cmpR_end xs ys j (by rw [HX.out, HY.out]; omega) (by rw [HX.out]; omega) (by rw [HY.out]; omega) he)
        clear he
        obtain rfl : j = m := by omega
        have E1 := hidden (E.out.2.1 (by rw [HX.out, HY.out]; omega))
        clear E HC HD
        go_wp2
        go_ret
        exact ⟨by rw [E1.out]; rfl, _, rfl⟩
    · have E := hidden (cmpR_end xs ys j (by rw [HX.out, HY.out]; omega) (by rw [HX.out]; omega) (by rw [HY.out]; omega) he)
      clear he
      obtain rfl : j = n := by omega
      by_cases h2 : j < m
      · have E1 := hidden (E.out.1 (by rw [HX.out, HY.out]; omega))
        clear E HC HD
        go_wp2
        go_ret
        exact ⟨by rw [E1.out]; rfl, _, rfl⟩
      · obtain rfl : j = m := by omega
        have E1 := hidden (E.out.2.2 (by rw [HX.out, HY.out]))
        clear E HC HD
        go_wp2
        go_ret
        exact ⟨by rw [E1.out]; rfl, _, rfl⟩
set_option maxHeartbeats 400000 in
theorem requal_any (p q : Option Addr) (n c m d : Nat) (xs ys : List Int) (w : World) (h : Byt w p n c xs) (k : Byt w q m d ys) :
    Calls Tryz.prog 59 #[.slice p n c, .slice q m d] w fun e w' => e = .returned (.bool (decide (xs = ys))) ∧ ∃ r, w' = w.drewN r := by
  have HC := hidden (rcompare_any p q n c m d xs ys w h k)
  have he : decide (xs = ys) = (cmpR xs ys == 0) := by
    rw [Bool.eq_iff_iff, decide_eq_true_eq, beq_iff_eq]
    exact ⟨fun e => by rw [e, cmpR_refl], cmpR_eq xs ys⟩
  have HE := hidden he
  clear h k he
  go_enter Tryz.func59, Tryz.ntmps59
  go_wp2_with (go_at_call 83; refine HC.out.mono ?_; rintro e w' ⟨rfl, r, rfl⟩)
  go_ret
  exact ⟨by rw [HE.out]; rfl, _, rfl⟩
end Go.Proofs.YtnbkffehhahckaaGreat

namespace Go.Proofs.YtnbkffehhahckaaGreat
open Go.RowKit
set_option linter.unusedVariables false
end Go.Proofs.YtnbkffehhahckaaGreat

namespace Go.Proofs.YtnbkffehhahckaaGreat
open Go.RowKit
set_option linter.unusedVariables false
def BytesOk (w : World) (r : List Int × Bool) (e : Ending) (w' : World) : Prop := ∃ p n c, e = .returned (.tuple #[.slice p n c, .bool r.2]) ∧ Byt w' p n c r.1 ∧ Below w.heap.size w w'
def BodOk (w : World) (r : List Int × Bool) (e : Ending) (w' : World) : Prop := ∃ p n c, e = .returned (.tuple #[.slice p n c, .bool r.2]) ∧ Bod w' w.heap.size p n c r.1 ∧ Below w.heap.size w w'
set_option maxHeartbeats 400000 in
theorem slice_bod (p : Option Addr) (n c : Nat) (xs : List Int) (w : World) (h : Byt w p n c xs) (hb : n ≤ 140737488355328) (a k : Int) (ha : -9223372036854775808 ≤ a ∧ a ≤ 9223372036854775807) (hk : -9223372036854775808 ≤ k ∧ k ≤ 9223372036854775807) :
    Calls Tryz.prog 73 #[.slice p n c, .int .i64 a, .int .i64 k] w (BodOk w (pieceR xs a k)) := by
  have hn := h.le
  by_cases hi : 0 ≤ a ∧ 0 ≤ k ∧ a + k ≤ n
  · obtain ⟨a, rfl⟩ := Int.eq_ofNat_of_zero_le hi.1
    obtain ⟨k, rfl⟩ := Int.eq_ofNat_of_zero_le hi.2.1
    have hin : a + k ≤ n := by omega
    have hcap := h.cap
    have hp := h.part a (a + k) (by omega) hin
    rw [pieceR, if_pos (by have := h.len; omega)]
    have e1 : (xs.take (a + k)).drop a = (xs.drop a).take k := by rw [List.drop_take]; congr 1; omega
    have hr : ∀ x ∈ (xs.drop a).take k, 0 ≤ x ∧ x ≤ 255 := rng_take (rng_drop h.rng _) _
    rw [e1] at hp
    rw [show a + k - a = k by omega] at hp
    have HR := hidden hr
    clear h hi e1 hr
    by_cases hca : c = a
    · subst hca
      obtain rfl : k = 0 := by omega
      rw [if_pos rfl, Nat.sub_self] at hp
      have HB := hidden hp
      clear hp
      go_enter Tryz.func73, Tryz.ntmps73
      go_wp2_with (first | (go_at_call 72; refine (inside_yes _ _ _ _ _ _ (by omega) (by omega) (by omega) (by omega)).mono ?_; rintro e w' ⟨rfl, rfl⟩))
      refine (clone_any _ _ _ _ _ HB.out (by omega)).mono ?_
      rintro e w' ⟨v, rfl, hown, hbel⟩
      go_wp2
      obtain ⟨p', c', rfl, hby⟩ := hown.bod rfl HR.out
      go_ret2
      exact ⟨p', _, c', rfl, hby, hbel⟩
    · rw [if_neg hca] at hp
      have HB := hidden hp
      clear hp
      go_enter Tryz.func73, Tryz.ntmps73
      go_wp2_with (first | (go_at_call 72; refine (inside_yes _ _ _ _ _ _ (by omega) (by omega) (by omega) (by omega)).mono ?_; rintro e w' ⟨rfl, rfl⟩) | (go_at_call 50; refine (clone_any _ _ _ _ _ HB.out (by omega)).mono ?_; rintro e w' ⟨v, rfl, hown, hbel⟩))
      obtain ⟨p', c', rfl, hby⟩ := hown.bod rfl HR.out
      go_ret2
      exact ⟨p', _, c', rfl, hby, hbel⟩
  · rw [pieceR, if_neg (by have := h.len; omega)]
    clear h
    go_enter Tryz.func73, Tryz.ntmps73
    go_wp2_with (first | (go_at_call 72; refine (inside_no _ _ _ _ _ _ (by omega) (by omega) (by omega)).mono ?_; rintro e w' ⟨rfl, rfl⟩))
    go_ret2
    exact ⟨_, _, _, rfl, Bod.nil _ _ _ _ (Nat.zero_le _), Below.refl _ _⟩
end Go.Proofs.YtnbkffehhahckaaGreat

namespace Go.Proofs.YtnbkffehhahckaaGreat
open Go.RowKit
set_option linter.unusedVariables false
def Thrown (e : Ending) : Prop := e = .panicked [{ v := .iface 34 (.int .i64 4), recovered := false }]
theorem need_yes (w : World) : Calls Tryz.prog 134 #[.bool true] w fun e w' => e = .returned (.tuple #[]) ∧ w = w' := by
  go_enter Tryz.func134, Tryz.ntmps134
  go_wp2
  go_end0
  exact ⟨rfl, rfl⟩
theorem need_no (w : World) : Calls Tryz.prog 134 #[.bool false] w fun e w' => Thrown e ∧ w = w' := by
  go_enter Tryz.func134, Tryz.ntmps134
  go_wp2
  exact ⟨rfl, rfl, rfl⟩
theorem need_any (w : World) (b : Bool) : Calls Tryz.prog 134 #[.bool b] w fun e w' => w = w' ∧ (b = true ∧ e = .returned (.tuple #[]) ∨ b = false ∧ Thrown e) := by
  cases b
  · exact (need_no w).mono (fun e w' ⟨h, h2⟩ => ⟨h2, Or.inr ⟨rfl, h⟩⟩)
  · exact (need_yes w).mono (fun e w' ⟨h, h2⟩ => ⟨h2, Or.inl ⟨rfl, h⟩⟩)
theorem mark_any (more : Int) (b : Bool) (w : World) : Calls Tryz.prog 89 #[.int .i64 more, .bool b] w fun e w' => e = .returned (.int .i64 (if b = true then more else 0)) ∧ w = w' := by
  cases b
  all_goals
    go_enter Tryz.func89, Tryz.ntmps89
    go_wp2
    go_ret
    exact ⟨rfl, rfl⟩
structure Cu (w : World) (k : Nat) (p : Option Addr) (n c : Nat) (a : Int) : Prop where
  c0 : w.cell? ⟨k, 0, none⟩ = some (.slice p n c)
  c1 : w.cell? ⟨k, 1, none⟩ = some (.int .i64 a)
  fr : ∀ j, w.frozen? ⟨k, j, none⟩ = false
theorem Cu.lt {w : World} {k : Nat} {p : Option Addr} {n c : Nat} {a : Int} (h : Cu w k p n c a) : k < w.heap.size := World.block_lt_of_cell? w _ h.c0
theorem Cu.grown {w w' : World} {k : Nat} {p : Option Addr} {n c : Nat} {a : Int} {row : Option Nat} (h : Cu w k p n c a) (hg : w.grownBy w' row) (hne : some k ≠ row) : Cu w' k p n c a :=
  ⟨hg.cell h.c0 hne, hg.cell h.c1 hne, fun j => (World.frozen?_of_block (a := ⟨k, j, none⟩) (hg.block k h.lt hne)).trans (h.fr j)⟩
theorem Cu.below {w w' : World} {k : Nat} {p : Option Addr} {n c : Nat} {a : Int} (h : Cu w k p n c a) (hb : Below w.heap.size w w') : Cu w' k p n c a := h.grown (row := none) (grown_of_below hb none) (by simp)
theorem Cu.alloc {w : World} {k : Nat} {p : Option Addr} {n c : Nat} {a : Int} (h : Cu w k p n c a) (o : Obj) : Cu (w.alloc o) k p n c a := h.below ((Below.refl _ _).alloc (Nat.le_refl _) o)
theorem Cu.set_ne {w : World} {k : Nat} {p : Option Addr} {n c : Nat} {a : Int} (h : Cu w k p n c a) (g j : Nat) (v : Value) (hne : k ≠ g) : Cu (w.setCell ⟨g, j, none⟩ v) k p n c a := h.grown (grown_set w g j v) (by simp; exact hne)
theorem Cu.step {w : World} {k : Nat} {p : Option Addr} {n c : Nat} {a : Int} (h : Cu w k p n c a) (z : Int) : Cu (w.setCell ⟨k, 1, none⟩ (.int .i64 z)) k p n c z := by
  obtain ⟨c0, c1, fr⟩ := h
  exact ⟨by go_simp, by go_simp, fun j => by rw [World.frozen?_setCell]; exact fr j⟩
theorem Cu.new (w : World) (p : Option Addr) (n c : Nat) (a : Int) (T : TypeId) : Cu (w.alloc (.cells #[.slice p n c, .int .i64 a] T)) w.heap.size p n c a :=
  ⟨by go_simp, by go_simp, fun j => by go_simp⟩
theorem grown_new {a b c : World} {row : Option Nat} {R : Nat} (h : a.grownBy b row) (k : b.grownBy c (some R)) (hR : a.heap.size ≤ R) : a.grownBy c row :=
  ⟨k.os.trans h.os, k.tape.trans h.tape, k.output.trans h.output, Nat.le_trans h.size k.size, fun i hi hne => (k.block i (Nat.lt_of_lt_of_le hi h.size) (by simp; omega)).trans (h.block i hi hne)⟩
def numP (xs : List Int) (a d : Nat) : Int := val ((xs.drop a).take d)
theorem num_one (xs : List Int) (a : Nat) (h : a < xs.length) : numP xs a 1 = xs.getD a 0 := by
  rw [numP, show (xs.drop a).take 1 = [xs.getD a 0] by
    apply List.ext_getElem
    · simp; omega
    · intro i h1 h2
      have : i = 0 := by simp at h2; omega
      subst this
      simp [List.getD_eq_getElem?_getD, List.getElem?_eq_getElem h]]
  simp [val]
theorem num_two (xs : List Int) (a : Nat) (h : a + 2 ≤ xs.length) : numP xs a 2 = w2 xs a := by
  have e : (xs.drop a).take 2 = [xs.getD a 0, xs.getD (a + 1) 0] := by
    apply List.ext_getElem
    · simp; omega
    · intro i h1 h2
      have : i = 0 ∨ i = 1 := by simp at h2; omega
      rcases this with rfl | rfl <;> simp [List.getD_eq_getElem?_getD] <;> rw [List.getElem?_eq_getElem (by omega)] <;> rfl
  rw [numP, e, w2]
  simp [val]
theorem numP_bd {xs : List Int} (hr : ∀ x ∈ xs, 0 ≤ x ∧ x ≤ 255) (a d : Nat) (hd : d ≤ 2) : 0 ≤ numP xs a d ∧ numP xs a d ≤ 65535 := by
  have h1 := val_bd ((xs.drop a).take d) (rng_take (rng_drop hr _) _)
  have h2 := pow256_le (show ((xs.drop a).take d).length ≤ 2 by simp; omega)
  have h3 : (256 : Int) ^ 2 = 65536 := by decide
  unfold numP
  omega
set_option maxHeartbeats 400000 in
theorem left_any (p : Option Addr) (n c : Nat) (w : World) (k : Nat) (a : Int) (hc : Cu w k p n c a) (hn : n ≤ 9223372036854775807) (b : Bool) (hb : b = decide (a < n)) :
    Calls Tryz.prog 126 #[.pointer (some ⟨k, 0, none⟩)] w fun e w' => e = .returned (.bool b) ∧ Below w.heap.size w w' := by
  obtain ⟨c0, c1, fr⟩ := hc
  by_cases h : a < n
  all_goals
    go_enter Tryz.func126, Tryz.ntmps126
    go_wp2
    go_region
    go_wp2
    go_ret
    subst hb
    exact ⟨by simp [h], drew_below ⟨1, rfl⟩⟩
set_option maxHeartbeats 400000 in
theorem pnum_any (p : Option Addr) (n c : Nat) (xs : List Int) (w : World) (k a d : Nat) (hc : Cu w k p n c a) (h : Byt w p n c xs) (h1 : 1 ≤ d) (h8 : d ≤ 2) (ha : a ≤ n) (v : Int) (hv : numP xs a d = v) (D : Int) (hD : D = d) :
    Calls Tryz.prog 132 #[.pointer (some ⟨k, 0, none⟩), .int .i64 D] w fun e w' => w.grownBy w' (some k) ∧ ((a + d ≤ n ∧ e = .returned (.int .i64 v) ∧ Cu w' k p n c ((a + d : Nat) : Int)) ∨ (n < a + d ∧ Thrown e)) := by
  subst hD
  have hle := h.le
  have hvb := numP_bd h.rng a d h8
  rw [hv] at hvb
  have HC := hidden hc
  obtain ⟨c0, c1, fr⟩ := hc
  by_cases hin : a + d ≤ n
  · have E1 := hidden (fun m => (number_yes p n c xs (w.drewN m) (h.below (drew_below ⟨m, rfl⟩)) a d h1 (by omega) hin).mono (R' := fun e w' => e = .returned (.tuple #[.int .u64 v, .bool true]) ∧ w' = w.drewN m) (fun e w' ⟨x, y⟩ => ⟨by rw [x]; simp only [numP] at hv; rw [hv], y.symm⟩))
    clear h hv
    go_enter Tryz.func132, Tryz.ntmps132
    go_wp2
    go_quiet ((go_at_call 54; (with_reducible exact Calls.quiet_of_same (E1.out _))))
    go_wp2_with (go_at_call 134; (with_reducible refine (need_yes _).mono ?_); rintro e w' ⟨rfl, rfl⟩)
    go_ret
    refine ⟨grown_trans (grown_drewN _ _ _) (grown_set _ k 1 _), Or.inl ⟨hin, rfl, ?_⟩⟩
    have := (HC.out.below (drew_below (B := w.heap.size) ⟨nq, rfl⟩)).step ((a : Int) + d)
    exact this
  · have hnum : numR xs a d = (0, false) := by rw [numR, if_neg (by have := h.len; omega)]
    have E1 := hidden (fun m => (number_any p n c xs (w.drewN m) (h.below (drew_below ⟨m, rfl⟩)) a d (by omega) (by omega)).mono (R' := fun e w' => e = .returned (.tuple #[.int .u64 0, .bool false]) ∧ w' = w.drewN m) (fun e w' ⟨x, y⟩ => ⟨by rw [x, hnum], y.symm⟩))
    clear h hv hnum
    go_enter Tryz.func132, Tryz.ntmps132
    go_wp2
    go_quiet ((go_at_call 54; (with_reducible exact Calls.quiet_of_same (E1.out _))))
    go_wp2_with (go_at_call 134; (with_reducible refine (need_no _).mono ?_); rintro e w' ⟨rfl, rfl⟩)
    exact ⟨rfl, grown_drewN _ _ _, Or.inr ⟨by omega, rfl⟩⟩
set_option maxHeartbeats 800000 in
theorem ptake_any (p : Option Addr) (n c : Nat) (xs : List Int) (w : World) (k a : Nat) (hc : Cu w k p n c a) (h : Byt w p n c xs) (hb : n ≤ 140737488355328) (ha : a ≤ n) (M : Int) (hM : -9223372036854775808 ≤ M ∧ M ≤ 9223372036854775807) :
    Calls Tryz.prog 133 #[.pointer (some ⟨k, 0, none⟩), .int .i64 M] w fun e w' => w.grownBy w' (some k) ∧ ((0 ≤ M ∧ a + M ≤ n ∧ ∃ q m d, e = .returned (.slice q m d) ∧ Bod w' w.heap.size q m d ((xs.drop a).take M.toNat) ∧ Cu w' k p n c (a + M)) ∨ (¬ (0 ≤ M ∧ a + M ≤ n) ∧ Thrown e)) := by
  have hle := h.le
  have hlen := h.len
  have HC := hidden hc
  obtain ⟨c0, c1, fr⟩ := hc
  have HX := hidden h
  have E1 := hidden (fun (w : World) (h : Byt w p n c xs) => slice_bod p n c xs w h hb a M (by omega) hM)
  by_cases hin : 0 ≤ M ∧ a + M ≤ n
  · have hp : pieceR xs a M = ((xs.drop a).take M.toNat, true) := by
      rw [pieceR, if_pos (by omega), Int.toNat_natCast]
    have HP := hidden hp
    obtain ⟨hM0, hM1⟩ := hin
    have HXD : Hid (Byt w.drew p n c xs) := hidden (HX.out.below (drew_below ⟨1, rfl⟩))
    have E2 := hidden (E1.out w.drew HXD.out)
    clear h hp
    go_enter Tryz.func133, Tryz.ntmps133
    go_wp2
    go_region_law ((go_simp; go_at_call 73; (with_reducible refine (E2.out).mono ?_); rintro e wA ⟨q, m, d, rfl, hby, hbel⟩))
    all_goals
      rw [HP.out] at hby
      have hg : w.grownBy wA (some k) := grown_trans (grown_drewN w 1 _) (grown_of_below hbel _)
      have HCA : Hid (Cu wA k p n c a) := hidden ((HC.out.below (w' := w.drew) (drew_below ⟨1, rfl⟩)).below hbel)
      have c0 := HCA.out.c0
      have c1 := HCA.out.c1
      have fr := HCA.out.fr
      rw [HP.out]
      go_wp2_with (go_at_call 134; (with_reducible refine (need_yes _).mono ?_); rintro e w' ⟨rfl, rfl⟩)
      go_ret
      refine ⟨grown_trans hg (grown_set _ k 1 _), Or.inl ⟨hM0, hM1, q, m, d, rfl, (hby.mono (by simp)).grown (grown_set _ k 1 _) (OffB.low (by have := HC.out.lt; omega)), HCA.out.step _⟩⟩
  · have hp : pieceR xs a M = ([], false) := by
      rw [pieceR, if_neg (by omega)]
    have HP := hidden hp
    have HXD : Hid (Byt w.drew p n c xs) := hidden (HX.out.below (drew_below ⟨1, rfl⟩))
    have E2 := hidden (E1.out w.drew HXD.out)
    have HIN := hidden hin
    clear h hp hin
    go_enter Tryz.func133, Tryz.ntmps133
    go_wp2
    go_region_law ((go_simp; go_at_call 73; (with_reducible refine (E2.out).mono ?_); rintro e wA ⟨q, m, d, rfl, hby, hbel⟩))
    all_goals
      have hg : w.grownBy wA (some k) := grown_trans (grown_drewN w 1 _) (grown_of_below hbel _)
      rw [HP.out]
      go_wp2_with (go_at_call 134; (with_reducible refine (need_no _).mono ?_); rintro e w' ⟨rfl, rfl⟩)
      exact ⟨rfl, hg, Or.inr ⟨HIN.out, rfl⟩⟩
end Go.Proofs.YtnbkffehhahckaaGreat
