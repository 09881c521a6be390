/-
  Plain mathematics, no program: the bytes of selectors; what is read of bytes.
-/
import Derived.Test.YtignenekomlleaaSelMath
import Derived.Test.YtignenekomlleaaBytes
namespace Go.Proofs.Ytignenekomlleaa
open Go.RowKit
set_option linter.unusedVariables false

def encA (x : Ad) : List Int := if x.f = 4 then be 4 x.l else be 8 x.h ++ be 8 x.l
def sizeA (f : Int) : Nat := if f = 4 then 4 else 16
/-- The bytes of one selector. -/
def encO (s : Sl) : List Int := be 1 (if s.lo.f = 6 then 8 else 7) ++ (be 1 s.p ++ (be 2 (if s.lo.f = 6 then 40 else 16) ++ (be 2 s.a ++ (be 2 s.b ++ (encA s.lo ++ encA s.hi)))))
def encL : List Sl → List Int
  | [] => []
  | s :: l => encO s ++ encL l
def errL : List Sl → Int
  | [] => 0
  | s :: l => if checkS s ≠ 0 then checkS s else errL l
/-- Build. -/
def buildS (l : List Sl) : List Int × Int :=
  if l.length = 0 then ([], 8) else if l.length > 16 then ([], 10) else if errL l ≠ 0 then ([], errL l) else ([(l.length : Int), 0, 0, 0] ++ encL l, 0)

/-- A number of k bytes at a place. -/
def nAt (xs : List Int) (a k : Nat) : Int := val ((xs.drop a).take k)
/-- The selector at the beginning of some bytes, and how long it is. -/
def oneS (xs : List Int) : Option (Sl × Nat) :=
  if xs.length < 8 then none
  else if xs.getD 0 0 = 7 ∧ nAt xs 2 2 = 16 ∧ 16 ≤ xs.length then some (⟨xs.getD 1 0, nAt xs 4 2, nAt xs 6 2, ⟨4, 0, nAt xs 8 4⟩, ⟨4, 0, nAt xs 12 4⟩⟩, 16)
  else if xs.getD 0 0 = 8 ∧ nAt xs 2 2 = 40 ∧ 40 ≤ xs.length then some (⟨xs.getD 1 0, nAt xs 4 2, nAt xs 6 2, ⟨6, nAt xs 8 8, nAt xs 16 8⟩, ⟨6, nAt xs 24 8, nAt xs 32 8⟩⟩, 40)
  else none
def manyS : Nat → List Int → Option (List Sl)
  | 0, xs => if xs.length = 0 then some [] else none
  | n + 1, xs => match oneS xs with
    | none => none
    | some (s, k) => (manyS n (xs.drop k)).map (s :: ·)
/-- Parse. -/
def parseS (xs : List Int) : List Sl × Int :=
  if xs.length < 4 then ([], 1) else if xs.getD 0 0 = 0 then ([], 8) else if xs.getD 0 0 > 16 then ([], 10)
  else match manyS (xs.getD 0 0).toNat (xs.drop 4) with
    | none => ([], 4)
    | some l => if errL l ≠ 0 then ([], errL l) else (l, 0)

theorem encA_len (x : Ad) : (encA x).length = sizeA x.f := by
  unfold encA sizeA
  split <;> simp [be_len]
theorem encO_len (s : Sl) : (encO s).length = 8 + sizeA s.lo.f + sizeA s.hi.f := by
  unfold encO
  simp only [List.length_append, be_len, encA_len]
  omega
theorem encA_rng (x : Ad) : ∀ z ∈ encA x, 0 ≤ z ∧ z ≤ 255 := by
  unfold encA
  split
  · exact be_rng _ _
  · exact rng_append (be_rng _ _) (be_rng _ _)
theorem encO_rng (s : Sl) : ∀ z ∈ encO s, 0 ≤ z ∧ z ≤ 255 :=
  rng_append (be_rng _ _) (rng_append (be_rng _ _) (rng_append (be_rng _ _) (rng_append (be_rng _ _) (rng_append (be_rng _ _) (rng_append (encA_rng _) (encA_rng _))))))
theorem encL_rng : ∀ (l : List Sl), ∀ z ∈ encL l, 0 ≤ z ∧ z ≤ 255
  | [] => fun z hz => by cases hz
  | s :: l => rng_append (encO_rng s) (encL_rng l)
theorem encL_append (l r : List Sl) : encL (l ++ r) = encL l ++ encL r := by
  induction l with
  | nil => rfl
  | cons s l ih => simp [encL, ih]
theorem errL_zero {l : List Sl} (h : errL l = 0) : ∀ s ∈ l, checkS s = 0 := by
  induction l with
  | nil => intro s hs; cases hs
  | cons s l ih =>
    unfold errL at h
    split at h
    · rename_i k; exact absurd h k
    · rename_i k
      intro t ht
      rcases List.mem_cons.1 ht with rfl | ht
      · apply Classical.byContradiction
        intro e
        exact k e
      · exact ih h t ht
theorem errL_good {l : List Sl} (h : ∀ s ∈ l, checkS s = 0) : errL l = 0 := by
  induction l with
  | nil => rfl
  | cons s l ih =>
    unfold errL
    rw [if_neg (by rw [h s (by simp)]; simp)]
    exact ih (fun t ht => h t (by simp [ht]))

theorem nAt_at (u v w : List Int) (a k : Nat) (ha : u.length = a) (hk : v.length = k) : nAt (u ++ (v ++ w)) a k = val v := by
  subst ha hk
  unfold nAt
  rw [List.drop_left, List.take_left]
theorem be_val (k : Nat) (v : Int) (h0 : 0 ≤ v) (h1 : v < 2 ^ (8 * k)) : val (be k v) = v := by rw [val_be]; exact Int.emod_eq_of_lt h0 h1
theorem be1 (v : Int) (h0 : 0 ≤ v) (h1 : v ≤ 255) : be 1 v = [v] := by
  simp [be]
  omega
/-- A good selector that was written is read, whatever follows. -/
theorem one_enc {s : Sl} (h : GoodS s) (zs : List Int) : oneS (encO s ++ zs) = some (s, (encO s).length) ∧ ((encO s).length = 16 ∨ (encO s).length = 40) := by
  have hf := h.fam
  have hp := h.p
  have hq := h.q
  have hl := encO_len s
  have v1 := h.vlo
  have v2 := h.vhi
  have f1 := h.flo
  have f2 := h.fhi
  obtain ⟨sp, sa, sb, ⟨lf, lh, ll⟩, ⟨hf', hh, hl'⟩⟩ := s
  simp only at *
  subst hf
  have hfam : lf = 4 ∨ lf = 6 := by
    unfold validA at v1
    simp at v1
    omega
  have ha : 0 ≤ sa ∧ sa ≤ 65535 := by omega
  have hb : 0 ≤ sb ∧ sb ≤ 65535 := by omega
  rcases hfam with rfl | rfl
  · have w1 : lh = 0 ∧ ll < 4294967296 := by
      unfold validA at v1
      simp at v1
      exact v1
    have w2 : hh = 0 ∧ hl' < 4294967296 := by
      unfold validA at v2
      simp at v2
      exact v2
    obtain ⟨rfl, w1⟩ := w1
    obtain ⟨rfl, w2⟩ := w2
    have e : encO ⟨sp, sa, sb, ⟨4, 0, ll⟩, ⟨4, 0, hl'⟩⟩ = [7, sp] ++ (be 2 16 ++ (be 2 sa ++ (be 2 sb ++ (be 4 ll ++ be 4 hl')))) := by
      unfold encO encA
      simp only [if_true, if_neg (show ¬ (4 : Int) = 6 by decide)]
      rw [be1 7 (by omega) (by omega), be1 sp hp.1 hp.2]
      rfl
    have hlen : (encO ⟨sp, sa, sb, ⟨4, 0, ll⟩, ⟨4, 0, hl'⟩⟩).length = 16 := by rw [hl]; rfl
    refine ⟨?_, Or.inl hlen⟩
    rw [hlen, e]
    have g0 : ([7, sp] ++ (be 2 16 ++ (be 2 sa ++ (be 2 sb ++ (be 4 ll ++ be 4 hl')))) ++ zs) = [7, sp] ++ (be 2 16 ++ (be 2 sa ++ (be 2 sb ++ (be 4 ll ++ (be 4 hl' ++ zs))))) := by simp
    rw [g0]
    have n2 : nAt ([7, sp] ++ (be 2 16 ++ (be 2 sa ++ (be 2 sb ++ (be 4 ll ++ (be 4 hl' ++ zs)))))) 2 2 = 16 :=
      (nAt_at [7, sp] (be 2 16) _ 2 2 rfl (be_len _ _)).trans (be_val 2 16 (by omega) (by decide))
    have n4 : nAt ([7, sp] ++ (be 2 16 ++ (be 2 sa ++ (be 2 sb ++ (be 4 ll ++ (be 4 hl' ++ zs)))))) 4 2 = sa := by
      have := nAt_at ([7, sp] ++ be 2 16) (be 2 sa) (be 2 sb ++ (be 4 ll ++ (be 4 hl' ++ zs))) 4 2 (by simp [be_len]) (be_len _ _)
      rw [List.append_assoc] at this
      exact this.trans (be_val 2 sa ha.1 (by have := ha.2; simp; omega))
    have n6 : nAt ([7, sp] ++ (be 2 16 ++ (be 2 sa ++ (be 2 sb ++ (be 4 ll ++ (be 4 hl' ++ zs)))))) 6 2 = sb := by
      have := nAt_at ([7, sp] ++ (be 2 16 ++ be 2 sa)) (be 2 sb) (be 4 ll ++ (be 4 hl' ++ zs)) 6 2 (by simp [be_len]) (be_len _ _)
      simp only [List.append_assoc] at this ⊢
      exact this.trans (be_val 2 sb hb.1 (by have := hb.2; simp; omega))
    have n8 : nAt ([7, sp] ++ (be 2 16 ++ (be 2 sa ++ (be 2 sb ++ (be 4 ll ++ (be 4 hl' ++ zs)))))) 8 4 = ll := by
      have := nAt_at ([7, sp] ++ (be 2 16 ++ (be 2 sa ++ be 2 sb))) (be 4 ll) (be 4 hl' ++ zs) 8 4 (by simp [be_len]) (be_len _ _)
      simp only [List.append_assoc] at this ⊢
      exact this.trans (be_val 4 ll f1.l.1 (by simp; omega))
    have n12 : nAt ([7, sp] ++ (be 2 16 ++ (be 2 sa ++ (be 2 sb ++ (be 4 ll ++ (be 4 hl' ++ zs)))))) 12 4 = hl' := by
      have := nAt_at ([7, sp] ++ (be 2 16 ++ (be 2 sa ++ (be 2 sb ++ be 4 ll)))) (be 4 hl') zs 12 4 (by simp [be_len]) (be_len _ _)
      simp only [List.append_assoc] at this ⊢
      exact this.trans (be_val 4 hl' f2.l.1 (by simp; omega))
    unfold oneS
    rw [if_neg (by simp [be_len]; omega), if_pos ⟨by simp, n2, by simp [be_len]; omega⟩, n4, n6, n8, n12]
    simp
  · have e : encO ⟨sp, sa, sb, ⟨6, lh, ll⟩, ⟨6, hh, hl'⟩⟩ = [8, sp] ++ (be 2 40 ++ (be 2 sa ++ (be 2 sb ++ (be 8 lh ++ (be 8 ll ++ (be 8 hh ++ be 8 hl')))))) := by
      unfold encO encA
      simp only [if_true, if_neg (show ¬ (6 : Int) = 4 by decide)]
      rw [be1 8 (by omega) (by omega), be1 sp hp.1 hp.2]
      simp
    have hlen : (encO ⟨sp, sa, sb, ⟨6, lh, ll⟩, ⟨6, hh, hl'⟩⟩).length = 40 := by rw [hl]; rfl
    refine ⟨?_, Or.inr hlen⟩
    rw [hlen, e]
    have g0 : ([8, sp] ++ (be 2 40 ++ (be 2 sa ++ (be 2 sb ++ (be 8 lh ++ (be 8 ll ++ (be 8 hh ++ be 8 hl')))))) ++ zs) = [8, sp] ++ (be 2 40 ++ (be 2 sa ++ (be 2 sb ++ (be 8 lh ++ (be 8 ll ++ (be 8 hh ++ (be 8 hl' ++ zs))))))) := by simp
    rw [g0]
    generalize hX : [8, sp] ++ (be 2 40 ++ (be 2 sa ++ (be 2 sb ++ (be 8 lh ++ (be 8 ll ++ (be 8 hh ++ (be 8 hl' ++ zs))))))) = X
    have p64 : (2 : Int) ^ (8 * 8) = 18446744073709551616 := by decide
    have n2 : nAt X 2 2 = 40 := by
      rw [← hX]
      exact (nAt_at [8, sp] (be 2 40) _ 2 2 rfl (be_len _ _)).trans (be_val 2 40 (by omega) (by decide))
    have key : ∀ (u v : List Int) (k a : Nat) (z : Int), X = u ++ (be k z ++ v) → u.length = a → 0 ≤ z → z < 2 ^ (8 * k) → nAt X a k = z := by
      intro u v k a z hx hu h0 h1
      rw [hx]
      exact (nAt_at u (be k z) v a k hu (be_len _ _)).trans (be_val k z h0 h1)
    have n4 := key ([8, sp] ++ be 2 40) (be 2 sb ++ (be 8 lh ++ (be 8 ll ++ (be 8 hh ++ (be 8 hl' ++ zs))))) 2 4 sa (by rw [← hX]; simp) (by simp [be_len]) ha.1 (by have := ha.2; simp; omega)
    have n6 := key ([8, sp] ++ (be 2 40 ++ be 2 sa)) (be 8 lh ++ (be 8 ll ++ (be 8 hh ++ (be 8 hl' ++ zs)))) 2 6 sb (by rw [← hX]; simp) (by simp [be_len]) hb.1 (by have := hb.2; simp; omega)
    have n8 := key ([8, sp] ++ (be 2 40 ++ (be 2 sa ++ be 2 sb))) (be 8 ll ++ (be 8 hh ++ (be 8 hl' ++ zs))) 8 8 lh (by rw [← hX]; simp) (by simp [be_len]) f1.h.1 (by rw [p64]; have := f1.h.2; simp only at this; omega)
    have n16 := key ([8, sp] ++ (be 2 40 ++ (be 2 sa ++ (be 2 sb ++ be 8 lh)))) (be 8 hh ++ (be 8 hl' ++ zs)) 8 16 ll (by rw [← hX]; simp) (by simp [be_len]) f1.l.1 (by rw [p64]; have := f1.l.2; simp only at this; omega)
    have n24 := key ([8, sp] ++ (be 2 40 ++ (be 2 sa ++ (be 2 sb ++ (be 8 lh ++ be 8 ll))))) (be 8 hl' ++ zs) 8 24 hh (by rw [← hX]; simp) (by simp [be_len]) f2.h.1 (by rw [p64]; have := f2.h.2; simp only at this; omega)
    have n32 := key ([8, sp] ++ (be 2 40 ++ (be 2 sa ++ (be 2 sb ++ (be 8 lh ++ (be 8 ll ++ be 8 hh)))))) zs 8 32 hl' (by rw [← hX]; simp) (by simp [be_len]) f2.l.1 (by rw [p64]; have := f2.l.2; simp only at this; omega)
    have hxl : X.length = 40 + zs.length := by rw [← hX]; simp [be_len]; omega
    have d0 : X.getD 0 0 = 8 := by rw [← hX]; rfl
    have d1 : X.getD 1 0 = sp := by rw [← hX]; rfl
    unfold oneS
    rw [if_neg (by omega), if_neg (by rw [d0]; omega), if_pos ⟨d0, n2, by omega⟩, d1, n4, n6, n8, n16, n24, n32]
theorem many_enc : ∀ (l : List Sl), (∀ s ∈ l, GoodS s) → manyS l.length (encL l) = some l
  | [], _ => rfl
  | s :: l, h => by
    have h1 := (one_enc (h s (by simp)) (encL l)).1
    show manyS (l.length + 1) (encO s ++ encL l) = _
    unfold manyS
    rw [h1]
    simp only [List.drop_left]
    rw [many_enc l (fun t ht => h t (by simp [ht]))]
    rfl
/-- Good selectors that were written are read again, whatever the reserved bytes are. -/
theorem parse_encS (l : List Sl) (h : ∀ s ∈ l, GoodS s) (h1 : 1 ≤ l.length) (h2 : l.length ≤ 16) (r1 r2 r3 : Int) : parseS ([(l.length : Int), r1, r2, r3] ++ encL l) = (l, 0) := by
  unfold parseS
  have e : ([(l.length : Int), r1, r2, r3] ++ encL l).getD 0 0 = l.length := rfl
  rw [if_neg (by simp), e, if_neg (by omega), if_neg (by omega)]
  rw [show List.drop 4 ([(l.length : Int), r1, r2, r3] ++ encL l) = encL l from rfl, Int.toNat_natCast, many_enc l h]
  simp only
  rw [if_neg (by rw [errL_good (fun s hs => (h s hs).check)]; simp)]
end Go.Proofs.Ytignenekomlleaa
