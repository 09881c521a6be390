/-
  Plain mathematics, no program: the bytes of selectors; what is read of bytes.
  What wire.Number returns, for every slice of bytes, place and width.
  What slices.Clone of bytes returns: bytes of the call's own that are those of the argument.
  What wire.Put returns, for every slice of bytes, number and width.
  A row of bytes of the call's own: seen from an earlier place, and in a later world.
  What the document's own Compare and Equal return: the lexicographic order of two slices of bytes, and whether they are equal.
  What wire.Equal returns: whether two slices of bytes hold the same numbers.
  An equation that no walk looks into.
  A map of the call's own from transforms to bools that holds just those of a list.
  A list of choices: some bytes.
  What the document's own Number returns, for every slice of bytes, place and width.
-/
import Derived.Test.YtbpmanbpmlkmnaaGreatDoorMSelMath
import Derived.Test.YtbpmanbpmlkmnaaGreatDoorMZ0
import Derived.Test.YtbpmanbpmlkmnaaGreatDoorRows
import Derived.Test.YtbpmanbpmlkmnaaGreatDoorMNum
import Derived.Deep.QuietTactic
import Derived.BigQuiet
import Derived.Maps.OwnOps
import Derived.Maps.Views
import Derived.DeepKeys4
namespace Go.Proofs.YtbpmanbpmlkmnaaGreatDoor
open Go.RowKit
set_option linter.unusedVariables false

def encA (x : Ad) : List Int := if x.f = 4 then be 4 x.l else be 8 x.h ++ be 8 x.l
def sizeA (f : Int) : Nat := if f = 4 then 4 else 16
/-- The bytes of one selector. -/
def encO (s : Sl) : List Int := be 1 (if s.lo.f = 6 then 8 else 7) ++ (be 1 s.p ++ (be 2 (if s.lo.f = 6 then 40 else 16) ++ (be 2 s.a ++ (be 2 s.b ++ (encA s.lo ++ encA s.hi)))))
def encL : List Sl → List Int
  | [] => []
  | s :: l => encO s ++ encL l
def errL : List Sl → Int
  | [] => 0
  | s :: l => if checkS s ≠ 0 then checkS s else errL l
/-- Build. -/
def buildS (l : List Sl) : List Int × Int :=
  if l.length = 0 then ([], 8) else if l.length > 16 then ([], 10) else if errL l ≠ 0 then ([], errL l) else ([(l.length : Int), 0, 0, 0] ++ encL l, 0)

/-- A number of k bytes at a place. -/
def nAt (xs : List Int) (a k : Nat) : Int := val ((xs.drop a).take k)
/-- The selector at the beginning of some bytes, and how long it is. -/
def oneS (xs : List Int) : Option (Sl × Nat) :=
  if xs.length < 8 then none
  else if xs.getD 0 0 = 7 ∧ nAt xs 2 2 = 16 ∧ 16 ≤ xs.length then some (⟨xs.getD 1 0, nAt xs 4 2, nAt xs 6 2, ⟨4, 0, nAt xs 8 4⟩, ⟨4, 0, nAt xs 12 4⟩⟩, 16)
  else if xs.getD 0 0 = 8 ∧ nAt xs 2 2 = 40 ∧ 40 ≤ xs.length then some (⟨xs.getD 1 0, nAt xs 4 2, nAt xs 6 2, ⟨6, nAt xs 8 8, nAt xs 16 8⟩, ⟨6, nAt xs 24 8, nAt xs 32 8⟩⟩, 40)
  else none
def manyS : Nat → List Int → Option (List Sl)
  | 0, xs => if xs.length = 0 then some [] else none
  | n + 1, xs => match oneS xs with
    | none => none
    | some (s, k) => (manyS n (xs.drop k)).map (s :: ·)
/-- Parse. -/
def parseS (xs : List Int) : List Sl × Int :=
  if xs.length < 4 then ([], 1) else if xs.getD 0 0 = 0 then ([], 8) else if xs.getD 0 0 > 16 then ([], 10)
  else match manyS (xs.getD 0 0).toNat (xs.drop 4) with
    | none => ([], 4)
    | some l => if errL l ≠ 0 then ([], errL l) else (l, 0)

theorem encA_len (x : Ad) : (encA x).length = sizeA x.f := by
  unfold encA sizeA
  split <;> simp [be_len]
theorem encO_len (s : Sl) : (encO s).length = 8 + sizeA s.lo.f + sizeA s.hi.f := by
  unfold encO
  simp only [List.length_append, be_len, encA_len]
  omega
theorem encA_rng (x : Ad) : ∀ z ∈ encA x, 0 ≤ z ∧ z ≤ 255 := by
  unfold encA
  split
  · exact be_rng _ _
  · exact rng_append (be_rng _ _) (be_rng _ _)
theorem encO_rng (s : Sl) : ∀ z ∈ encO s, 0 ≤ z ∧ z ≤ 255 :=
  rng_append (be_rng _ _) (rng_append (be_rng _ _) (rng_append (be_rng _ _) (rng_append (be_rng _ _) (rng_append (be_rng _ _) (rng_append (encA_rng _) (encA_rng _))))))
theorem encL_rng : ∀ (l : List Sl), ∀ z ∈ encL l, 0 ≤ z ∧ z ≤ 255
  | [] => fun z hz => by cases hz
  | s :: l => rng_append (encO_rng s) (encL_rng l)
theorem encL_append (l r : List Sl) : encL (l ++ r) = encL l ++ encL r := by
  induction l with
  | nil => rfl
  | cons s l ih => simp [encL, ih]
theorem errL_zero {l : List Sl} (h : errL l = 0) : ∀ s ∈ l, checkS s = 0 := by
  induction l with
  | nil => intro s hs; cases hs
  | cons s l ih =>
    unfold errL at h
    split at h
    · rename_i k; exact absurd h k
    · rename_i k
      intro t ht
      rcases List.mem_cons.1 ht with rfl | ht
      · apply Classical.byContradiction
        intro e
        exact k e
      · exact ih h t ht
theorem errL_good {l : List Sl} (h : ∀ s ∈ l, checkS s = 0) : errL l = 0 := by
  induction l with
  | nil => rfl
  | cons s l ih =>
    unfold errL
    rw [if_neg (by rw [h s (by simp)]; simp)]
    exact ih (fun t ht => h t (by simp [ht]))

theorem nAt_at (u v w : List Int) (a k : Nat) (ha : u.length = a) (hk : v.length = k) : nAt (u ++ (v ++ w)) a k = val v := by
  subst ha hk
  unfold nAt
  rw [List.drop_left, List.take_left]
theorem be_val (k : Nat) (v : Int) (h0 : 0 ≤ v) (h1 : v < 2 ^ (8 * k)) : val (be k v) = v := by rw [val_be]; exact Int.emod_eq_of_lt h0 h1
theorem be1 (v : Int) (h0 : 0 ≤ v) (h1 : v ≤ 255) : be 1 v = [v] := by
  simp [be]
  omega
/-- A good selector that was written is read, whatever follows. -/
theorem one_enc {s : Sl} (h : GoodS s) (zs : List Int) : oneS (encO s ++ zs) = some (s, (encO s).length) ∧ ((encO s).length = 16 ∨ (encO s).length = 40) := by
  have hf := h.fam
  have hp := h.p
  have hq := h.q
  have hl := encO_len s
  have v1 := h.vlo
  have v2 := h.vhi
  have f1 := h.flo
  have f2 := h.fhi
  obtain ⟨sp, sa, sb, ⟨lf, lh, ll⟩, ⟨hf', hh, hl'⟩⟩ := s
  simp only at *
  subst hf
  have hfam : lf = 4 ∨ lf = 6 := by
    unfold validA at v1
    simp at v1
    omega
  have ha : 0 ≤ sa ∧ sa ≤ 65535 := by omega
  have hb : 0 ≤ sb ∧ sb ≤ 65535 := by omega
  rcases hfam with rfl | rfl
  · have w1 : lh = 0 ∧ ll < 4294967296 := by
      unfold validA at v1
      simp at v1
      exact v1
    have w2 : hh = 0 ∧ hl' < 4294967296 := by
      unfold validA at v2
      simp at v2
      exact v2
    obtain ⟨rfl, w1⟩ := w1
    obtain ⟨rfl, w2⟩ := w2
    have e : encO ⟨sp, sa, sb, ⟨4, 0, ll⟩, ⟨4, 0, hl'⟩⟩ = [7, sp] ++ (be 2 16 ++ (be 2 sa ++ (be 2 sb ++ (be 4 ll ++ be 4 hl')))) := by
      unfold encO encA
      simp only [if_true, if_neg (show ¬ (4 : Int) = 6 by decide)]
      rw [be1 7 (by omega) (by omega), be1 sp hp.1 hp.2]
      rfl
    have hlen : (encO ⟨sp, sa, sb, ⟨4, 0, ll⟩, ⟨4, 0, hl'⟩⟩).length = 16 := by rw [hl]; rfl
    refine ⟨?_, Or.inl hlen⟩
    rw [hlen, e]
    have g0 : ([7, sp] ++ (be 2 16 ++ (be 2 sa ++ (be 2 sb ++ (be 4 ll ++ be 4 hl')))) ++ zs) = [7, sp] ++ (be 2 16 ++ (be 2 sa ++ (be 2 sb ++ (be 4 ll ++ (be 4 hl' ++ zs))))) := by simp
    rw [g0]
    have n2 : nAt ([7, sp] ++ (be 2 16 ++ (be 2 sa ++ (be 2 sb ++ (be 4 ll ++ (be 4 hl' ++ zs)))))) 2 2 = 16 :=
      (nAt_at [7, sp] (be 2 16) _ 2 2 rfl (be_len _ _)).trans (be_val 2 16 (by omega) (by decide))
    have n4 : nAt ([7, sp] ++ (be 2 16 ++ (be 2 sa ++ (be 2 sb ++ (be 4 ll ++ (be 4 hl' ++ zs)))))) 4 2 = sa := by
      have := nAt_at ([7, sp] ++ be 2 16) (be 2 sa) (be 2 sb ++ (be 4 ll ++ (be 4 hl' ++ zs))) 4 2 (by simp [be_len]) (be_len _ _)
      rw [List.append_assoc] at this
      exact this.trans (be_val 2 sa ha.1 (by have := ha.2; simp; omega))
    have n6 : nAt ([7, sp] ++ (be 2 16 ++ (be 2 sa ++ (be 2 sb ++ (be 4 ll ++ (be 4 hl' ++ zs)))))) 6 2 = sb := by
      have := nAt_at ([7, sp] ++ (be 2 16 ++ be 2 sa)) (be 2 sb) (be 4 ll ++ (be 4 hl' ++ zs)) 6 2 (by simp [be_len]) (be_len _ _)
      simp only [List.append_assoc] at this ⊢
      exact this.trans (be_val 2 sb hb.1 (by have := hb.2; simp; omega))
    have n8 : nAt ([7, sp] ++ (be 2 16 ++ (be 2 sa ++ (be 2 sb ++ (be 4 ll ++ (be 4 hl' ++ zs)))))) 8 4 = ll := by
      have := nAt_at ([7, sp] ++ (be 2 16 ++ (be 2 sa ++ be 2 sb))) (be 4 ll) (be 4 hl' ++ zs) 8 4 (by simp [be_len]) (be_len _ _)
      simp only [List.append_assoc] at this ⊢
      exact this.trans (be_val 4 ll f1.l.1 (by simp; omega))
    have n12 : nAt ([7, sp] ++ (be 2 16 ++ (be 2 sa ++ (be 2 sb ++ (be 4 ll ++ (be 4 hl' ++ zs)))))) 12 4 = hl' := by
      have := nAt_at ([7, sp] ++ (be 2 16 ++ (be 2 sa ++ (be 2 sb ++ be 4 ll)))) (be 4 hl') zs 12 4 (by simp [be_len]) (be_len _ _)
      simp only [List.append_assoc] at this ⊢
      exact this.trans (be_val 4 hl' f2.l.1 (by simp; omega))
    unfold oneS
    rw [if_neg (by simp [be_len]; omega), if_pos ⟨by simp, n2, by simp [be_len]; omega⟩, n4, n6, n8, n12]
    simp
  · have e : encO ⟨sp, sa, sb, ⟨6, lh, ll⟩, ⟨6, hh, hl'⟩⟩ = [8, sp] ++ (be 2 40 ++ (be 2 sa ++ (be 2 sb ++ (be 8 lh ++ (be 8 ll ++ (be 8 hh ++ be 8 hl')))))) := by
      unfold encO encA
      simp only [if_true, if_neg (show ¬ (6 : Int) = 4 by decide)]
      rw [be1 8 (by omega) (by omega), be1 sp hp.1 hp.2]
      simp
    have hlen : (encO ⟨sp, sa, sb, ⟨6, lh, ll⟩, ⟨6, hh, hl'⟩⟩).length = 40 := by rw [hl]; rfl
    refine ⟨?_, Or.inr hlen⟩
    rw [hlen, e]
    have g0 : ([8, sp] ++ (be 2 40 ++ (be 2 sa ++ (be 2 sb ++ (be 8 lh ++ (be 8 ll ++ (be 8 hh ++ be 8 hl')))))) ++ zs) = [8, sp] ++ (be 2 40 ++ (be 2 sa ++ (be 2 sb ++ (be 8 lh ++ (be 8 ll ++ (be 8 hh ++ (be 8 hl' ++ zs))))))) := by simp
    rw [g0]
    generalize hX : [8, sp] ++ (be 2 40 ++ (be 2 sa ++ (be 2 sb ++ (be 8 lh ++ (be 8 ll ++ (be 8 hh ++ (be 8 hl' ++ zs))))))) = X
    have p64 : (2 : Int) ^ (8 * 8) = 18446744073709551616 := by decide
    have n2 : nAt X 2 2 = 40 := by
      rw [← hX]
      exact (nAt_at [8, sp] (be 2 40) _ 2 2 rfl (be_len _ _)).trans (be_val 2 40 (by omega) (by decide))
    have key : ∀ (u v : List Int) (k a : Nat) (z : Int), X = u ++ (be k z ++ v) → u.length = a → 0 ≤ z → z < 2 ^ (8 * k) → nAt X a k = z := by
      intro u v k a z hx hu h0 h1
      rw [hx]
      exact (nAt_at u (be k z) v a k hu (be_len _ _)).trans (be_val k z h0 h1)
    have n4 := key ([8, sp] ++ be 2 40) (be 2 sb ++ (be 8 lh ++ (be 8 ll ++ (be 8 hh ++ (be 8 hl' ++ zs))))) 2 4 sa (by rw [← hX]; simp) (by simp [be_len]) ha.1 (by have := ha.2; simp; omega)
    have n6 := key ([8, sp] ++ (be 2 40 ++ be 2 sa)) (be 8 lh ++ (be 8 ll ++ (be 8 hh ++ (be 8 hl' ++ zs)))) 2 6 sb (by rw [← hX]; simp) (by simp [be_len]) hb.1 (by have := hb.2; simp; omega)
    have n8 := key ([8, sp] ++ (be 2 40 ++ (be 2 sa ++ be 2 sb))) (be 8 ll ++ (be 8 hh ++ (be 8 hl' ++ zs))) 8 8 lh (by rw [← hX]; simp) (by simp [be_len]) f1.h.1 (by rw [p64]; have := f1.h.2; simp only at this; omega)
    have n16 := key ([8, sp] ++ (be 2 40 ++ (be 2 sa ++ (be 2 sb ++ be 8 lh)))) (be 8 hh ++ (be 8 hl' ++ zs)) 8 16 ll (by rw [← hX]; simp) (by simp [be_len]) f1.l.1 (by rw [p64]; have := f1.l.2; simp only at this; omega)
    have n24 := key ([8, sp] ++ (be 2 40 ++ (be 2 sa ++ (be 2 sb ++ (be 8 lh ++ be 8 ll))))) (be 8 hl' ++ zs) 8 24 hh (by rw [← hX]; simp) (by simp [be_len]) f2.h.1 (by rw [p64]; have := f2.h.2; simp only at this; omega)
    have n32 := key ([8, sp] ++ (be 2 40 ++ (be 2 sa ++ (be 2 sb ++ (be 8 lh ++ (be 8 ll ++ be 8 hh)))))) zs 8 32 hl' (by rw [← hX]; simp) (by simp [be_len]) f2.l.1 (by rw [p64]; have := f2.l.2; simp only at this; omega)
    have hxl : X.length = 40 + zs.length := by rw [← hX]; simp [be_len]; omega
    have d0 : X.getD 0 0 = 8 := by rw [← hX]; rfl
    have d1 : X.getD 1 0 = sp := by rw [← hX]; rfl
    unfold oneS
    rw [if_neg (by omega), if_neg (by rw [d0]; omega), if_pos ⟨d0, n2, by omega⟩, d1, n4, n6, n8, n16, n24, n32]
theorem many_enc : ∀ (l : List Sl), (∀ s ∈ l, GoodS s) → manyS l.length (encL l) = some l
  | [], _ => rfl
  | s :: l, h => by
    have h1 := (one_enc (h s (by simp)) (encL l)).1
    show manyS (l.length + 1) (encO s ++ encL l) = _
    unfold manyS
    rw [h1]
    simp only [List.drop_left]
    rw [many_enc l (fun t ht => h t (by simp [ht]))]
    rfl
/-- Good selectors that were written are read again, whatever the reserved bytes are. -/
theorem parse_encS (l : List Sl) (h : ∀ s ∈ l, GoodS s) (h1 : 1 ≤ l.length) (h2 : l.length ≤ 16) (r1 r2 r3 : Int) : parseS ([(l.length : Int), r1, r2, r3] ++ encL l) = (l, 0) := by
  unfold parseS
  have e : ([(l.length : Int), r1, r2, r3] ++ encL l).getD 0 0 = l.length := rfl
  rw [if_neg (by simp), e, if_neg (by omega), if_neg (by omega)]
  rw [show List.drop 4 ([(l.length : Int), r1, r2, r3] ++ encL l) = encL l from rfl, Int.toNat_natCast, many_enc l h]
  simp only
  rw [if_neg (by rw [errL_good (fun s hs => (h s hs).check)]; simp)]
end Go.Proofs.YtbpmanbpmlkmnaaGreatDoor

namespace Go.Proofs.YtbpmanbpmlkmnaaGreatDoor
open Go.RowKit
set_option linter.unusedVariables false

theorem isWidth_yes (v : Int) (w : World) (h1 : 1 ≤ v) (h8 : v ≤ 8) : Calls Tryz.prog 111 #[.int .i64 v] w fun e w' => e = .returned (.bool true) ∧ w = w' := by
  go_enter Tryz.func111, Tryz.ntmps111
  go_wp2
  go_ret
  exact ⟨by simp <;> omega, rfl⟩
theorem isWidth_no (v : Int) (w : World) (h : v < 1 ∨ 8 < v) : Calls Tryz.prog 111 #[.int .i64 v] w fun e w' => e = .returned (.bool false) ∧ w = w' := by
  go_enter Tryz.func111, Tryz.ntmps111
  go_wp2
  all_goals go_ret
  all_goals exact ⟨by simp <;> omega, rfl⟩
theorem inside_yes (p : Option Addr) (n c : Nat) (a k : Int) (w : World) (hn : n ≤ 9223372036854775807) (h1 : 0 ≤ a) (h2 : 0 ≤ k) (h3 : k ≤ n - a) :
    Calls Tryz.prog 97 #[.slice p n c, .int .i64 a, .int .i64 k] w fun e w' => e = .returned (.bool true) ∧ w = w' := by
  go_enter Tryz.func97, Tryz.ntmps97
  go_wp2
  go_ret
  exact ⟨by simp <;> omega, rfl⟩
theorem inside_no (p : Option Addr) (n c : Nat) (a k : Int) (w : World) (hn : n ≤ 9223372036854775807) (ha : a ≤ 9223372036854775807) (h : a < 0 ∨ k < 0 ∨ n - a < k) :
    Calls Tryz.prog 97 #[.slice p n c, .int .i64 a, .int .i64 k] w fun e w' => e = .returned (.bool false) ∧ w = w' := by
  by_cases h1 : 0 ≤ a
  · by_cases h2 : 0 ≤ k
    · have h3 : (n : Int) - a < k := by omega
      go_enter Tryz.func97, Tryz.ntmps97
      go_wp2
      all_goals go_ret
      all_goals exact ⟨by simp <;> omega, rfl⟩
    · go_enter Tryz.func97, Tryz.ntmps97
      go_wp2
      all_goals go_ret
      all_goals exact ⟨by simp <;> omega, rfl⟩
  · go_enter Tryz.func97, Tryz.ntmps97
    go_wp2
    all_goals go_ret
    all_goals exact ⟨by simp <;> omega, rfl⟩

set_option maxHeartbeats 400000 in
theorem number_yes (p : Option Addr) (n c : Nat) (xs : List Int) (w : World) (h : Byt w p n c xs) (a k : Nat) (h1 : 1 ≤ k) (h8 : k ≤ 8) (hin : a + k ≤ n) :
    Calls Tryz.prog 95 #[.slice p n c, .int .i64 a, .int .i64 k] w fun e w' => e = .returned (.tuple #[.int .u64 (val ((xs.drop a).take k)), .bool true]) ∧ w = w' := by
  have hn := h.le
  have hcap := h.cap
  obtain ⟨b, o, rfl, hc⟩ := h.at_ (by omega)
  have hl : ((xs.drop a).take k).length = k := by have := h.len; simp; omega
  have hr : ∀ x ∈ (xs.drop a).take k, 0 ≤ x ∧ x ≤ 255 := rng_take (rng_drop h.rng _) _
  have hcc : ∀ j, j < k → w.cell? ⟨b, o + a + j, none⟩ = some (.int .u8 (((xs.drop a).take k).getD j 0)) := fun j hj => by
    rw [Nat.add_assoc, hc (a + j) (by omega)]
    simp [List.getD_eq_getElem?_getD, List.getElem?_take_of_lt hj]
  generalize (xs.drop a).take k = ys at hl hr hcc
  clear hc h
  go_enter Tryz.func95, Tryz.ntmps95
  go_wp2_with (first | (go_at_call 111; refine (isWidth_yes _ _ (by omega) (by omega)).mono ?_; rintro e w' ⟨rfl, rfl⟩) | (go_at_call 97; refine (inside_yes _ _ _ _ _ _ (by omega) (by omega) (by omega) (by omega)).mono ?_; rintro e w' ⟨rfl, rfl⟩))
  go_loop [8, 10, 28] (fun v x i => ∃ j : Nat, j ≤ k ∧ i = .int .i64 j ∧ v = .int .u64 (val (ys.take j))) (fun _ _ i => k - (intOf i).toNat)
  case atStart => exact ⟨0, by omega, rfl, rfl⟩
  case round =>
    obtain ⟨j, hj, rfl, rfl⟩ := hrel
    by_cases hlt : j < k
    · have hcell := hcc j hlt
      have hb := rng_getD hr j
      have hv := val_56 (ys.take j) (rng_take hr j) (by simp; omega)
      have hs := hidden (val_step ys j (by omega))
      have ho := or_byte (val (ys.take j)) (ys.getD j 0) hv.1 hv.2 hb.1 hb.2
      generalize val (ys.take j) = v at *
      generalize ys.getD j 0 = x at *
      clear hcc hr hl
      go_wp2
      go_round
      case rel => exact ⟨j + 1, by omega, by go_num, by rw [hs.out]⟩
      case measure => simp [intOf]; omega
    · obtain rfl : j = k := by omega
      have hy : ys.take j = ys := List.take_of_length_le (by omega)
      clear hcc hr
      go_wp2
      go_ret2
      exact ⟨rfl, rfl⟩

set_option maxHeartbeats 400000 in
theorem number_any (p : Option Addr) (n c : Nat) (xs : List Int) (w : World) (h : Byt w p n c xs) (a k : Int) (ha : -9223372036854775808 ≤ a ∧ a ≤ 9223372036854775807) (hk : -9223372036854775808 ≤ k ∧ k ≤ 9223372036854775807) :
    Calls Tryz.prog 95 #[.slice p n c, .int .i64 a, .int .i64 k] w fun e w' => e = .returned (.tuple #[.int .u64 (numR xs a k).1, .bool (numR xs a k).2]) ∧ w = w' := by
  have hn := h.le
  by_cases hw : 1 ≤ k ∧ k ≤ 8
  · by_cases hi : 0 ≤ a ∧ a + k ≤ n
    · obtain ⟨a, rfl⟩ := Int.eq_ofNat_of_zero_le hi.1
      obtain ⟨k, rfl⟩ := Int.eq_ofNat_of_zero_le (show 0 ≤ k by omega)
      have := number_yes p n c xs w h a k (by omega) (by omega) (by omega)
      rw [numR, if_pos (by have := h.len; omega)]
      exact this
    · rw [numR, if_neg (by have := h.len; omega)]
      clear h
      go_enter Tryz.func95, Tryz.ntmps95
      go_wp2_with (first | (go_at_call 111; refine (isWidth_yes _ _ (by omega) (by omega)).mono ?_; rintro e w' ⟨rfl, rfl⟩) | (go_at_call 97; refine (inside_no _ _ _ _ _ _ (by omega) (by omega) (by omega)).mono ?_; rintro e w' ⟨rfl, rfl⟩))
      go_ret2
      exact ⟨rfl, rfl⟩
  · rw [numR, if_neg (by omega)]
    clear h
    go_enter Tryz.func95, Tryz.ntmps95
    go_wp2_with (first | (go_at_call 111; refine (isWidth_no _ _ (by omega)).mono ?_; rintro e w' ⟨rfl, rfl⟩))
    go_ret2
    exact ⟨rfl, rfl⟩
end Go.Proofs.YtbpmanbpmlkmnaaGreatDoor

namespace Go.Proofs.YtbpmanbpmlkmnaaGreatDoor
open Go.RowKit
set_option linter.unusedVariables false

set_option maxHeartbeats 400000 in
theorem clone_any (p : Option Addr) (n c : Nat) (xs : List Int) (w : World) (h : Byt w p n c xs) (hb : n ≤ 140737488355328) :
    Calls Tryz.prog 62 #[.slice p n c] w fun e w' => ∃ v, e = .returned v ∧ Own w' w.heap.size 5 v xs ∧ Below w.heap.size w w' := by
  have hl := h.len
  have q := fun (w : World) (a : Option Addr) (n c n' c' : Nat) => Lib.run_eql_slice_nil (P := Tryz.prog) w 22 _ a n c n' c' Tryz.underlying22
  cases p with
  | none =>
    have hn : n = 0 := by
      rcases Nat.eq_zero_or_pos n with h0 | h0
      · exact h0
      · obtain ⟨b, o, h, _⟩ := h.at_ h0
        cases h
    subst hn
    obtain rfl : xs = [] := List.eq_nil_of_length_eq_zero hl
    clear h hl
    go_enter Tryz.func62, Tryz.ntmps62
    go_wp2
    go_ret
    exact ⟨_, rfl, Own.nil _ _ _, Below.refl _ _⟩
  | some a =>
    obtain ⟨i0, hi, hz0, hz1, hz2⟩ := info_parts Tryz.infoByte
    have H := hidden h
    clear h
    go_enter Tryz.func62, Tryz.ntmps62
    go_wp2_with (at_builtin; refine wpList_append_byt _ rfl _ _ 22 rfl w.heap.size 5 i0 (.int .u8 0) Tryz.underlying22 hi hz0 hz1 hz2 rfl _ _ rfl (Own.made w w.heap.size 5 (Nat.le_refl _)) _ _ _ _ _ rfl (H.out.alloc _) rfl ?c1 ?c2 ?_)
    case c1 => simp; omega
    case c2 => simp
    intro v w1 hown hg
    go_wp2
    go_ret
    exact ⟨v, rfl, hown, ((Below.refl _ w).alloc (Nat.le_refl _) _).grown hg (by simp) (by intro k hk; simp [Value.ownBlock] at hk; omega)⟩
end Go.Proofs.YtbpmanbpmlkmnaaGreatDoor

namespace Go.Proofs.YtbpmanbpmlkmnaaGreatDoor
open Go.RowKit
set_option linter.unusedVariables false

/-- The result of a function that returns bytes of its own. -/
def BytesPut (w : World) (xs : List Int) (e : Ending) (w' : World) : Prop := ∃ v, e = .returned v ∧ Own w' w.heap.size 5 v xs ∧ Below w.heap.size w w'

end Go.Proofs.YtbpmanbpmlkmnaaGreatDoor

namespace Go.Proofs.YtbpmanbpmlkmnaaGreatDoor
open Go.RowKit
set_option linter.unusedVariables false

theorem Own.mono {w : World} {base base' : Nat} {e : TypeId} {v : Value} {xs : List Int} (h : Own w base e v xs) (hb : base' ≤ base) : Own w base' e v xs := by
  refine ⟨h.1, ?_⟩
  rcases h.2 with h1 | ⟨g, cap, cur, hv, hg, rest⟩
  · exact Or.inl h1
  · exact Or.inr ⟨g, cap, cur, hv, by omega, rest⟩
theorem Own.below {w w' : World} {base : Nat} {e : TypeId} {v : Value} {xs : List Int} (h : Own w base e v xs) (hb : Below w.heap.size w w') : Own w' base e v xs :=
  World.ownsRow.kept (row := none) h ⟨hb.os, hb.tape, hb.output, hb.size, fun i hi _ => hb.block i hi⟩ (by
    rcases hv : v.ownBlock with _ | b
    · exact Or.inl rfl
    · exact Or.inr (by simp))
end Go.Proofs.YtbpmanbpmlkmnaaGreatDoor

namespace Go.Proofs.YtbpmanbpmlkmnaaGreatDoor
open Go.RowKit
set_option linter.unusedVariables false

set_option maxHeartbeats 800000 in
theorem rcompare_any (p q : Option Addr) (n c m d : Nat) (xs ys : List Int) (w : World) (h : Byt w p n c xs) (k : Byt w q m d ys) :
    Calls Tryz.prog 30 #[.slice p n c, .slice q m d] w fun e w' => e = .returned (.int .i64 (cmpR xs ys)) ∧ ∃ r, w' = w.drewN r := by
  have hln := h.le
  have hlm := k.le
  have HX := hidden h.len
  have HY := hidden k.len
  have HC := hidden (fun j (hj : j < n) => (show ∃ b o, p = some ⟨b, o, none⟩ ∧ w.cell? ⟨b, o + j, none⟩ = some (.int .u8 (xs.getD j 0)) by
    obtain ⟨b, o, e, hc⟩ := h.at_ (by omega)
    exact ⟨b, o, e, hc j hj⟩))
  have HD := hidden (fun j (hj : j < m) => (show ∃ b o, q = some ⟨b, o, none⟩ ∧ w.cell? ⟨b, o + j, none⟩ = some (.int .u8 (ys.getD j 0)) by
    obtain ⟨b, o, e, hc⟩ := k.at_ (by omega)
    exact ⟨b, o, e, hc j hj⟩))
  have HR := hidden h.rng
  have HS := hidden k.rng
  clear h k
  go_enter Tryz.func30, Tryz.ntmps30
  go_wp2
  go_loopw [5] (fun i wr => ∃ j : Nat, j ≤ n ∧ j ≤ m ∧ i = .int .i64 j ∧ cmpR xs ys = cmpR (xs.drop j) (ys.drop j) ∧ ∃ r, wr = w.drewN r) (fun i _ => n - (intOf i).toNat)
  case atStart => exact ⟨0, by omega, by omega, rfl, rfl, 0, rfl⟩
  case round =>
    obtain ⟨j, hjn, hjm, rfl, he, r, rfl⟩ := hrel
    by_cases h1 : j < n
    · by_cases h2 : j < m
      · obtain ⟨b, o, rfl, hc1⟩ := HC.out j h1
        obtain ⟨b', o', rfl, hc2⟩ := HD.out j h2
        have hs := cmpR_step xs ys j (by rw [HX.out]; exact h1) (by rw [HY.out]; exact h2) he
        have r1 := rng_getD HR.out j
        have r2 := rng_getD HS.out j
        clear he
        generalize xs.getD j 0 = x at *
        generalize ys.getD j 0 = y at *
        by_cases hl : x < y
        · have E := hidden (hs.1 hl)
          clear hs
          go_wp2
          go_quiet (fail)
          go_wp2
          go_ret
          refine ⟨by rw [E.out]; rfl, ?_⟩
          simp only [World.drewN_drewN]
          exact ⟨_, rfl⟩
        · by_cases hg : y < x
          · have E := hidden (hs.2.1 hg)
            clear hs
            go_wp2
            go_quiet (fail)
            go_wp2
            go_quiet (fail)
            go_wp2
            go_ret
            refine ⟨by rw [E.out]; rfl, ?_⟩
            simp only [World.drewN_drewN]
            exact ⟨_, rfl⟩
          · have E := hidden (hs.2.2 (by omega))
            clear hs
            go_wp2
            go_quiet (fail)
            go_wp2
            go_quiet (fail)
            go_wp2
            go_roundw
            case rel => exact ⟨j + 1, by omega, by omega, by go_num, E.out, _, rfl⟩
            case measure => simp [intOf]; omega
      · have E := hidden (cmpR_end xs ys j (by rw [HX.out, HY.out]; omega) (by rw [HX.out]; omega) (by rw [HY.out]; omega) he)
        clear he
        obtain rfl : j = m := by omega
        have E1 := hidden (E.out.2.1 (by rw [HX.out, HY.out]; omega))
        clear E HC HD
        go_wp2
        go_ret
        exact ⟨by rw [E1.out]; rfl, _, rfl⟩
    · have E := hidden (cmpR_end xs ys j (by rw [HX.out, HY.out]; omega) (by rw [HX.out]; omega) (by rw [HY.out]; omega) he)
      clear he
      obtain rfl : j = n := by omega
      by_cases h2 : j < m
      · have E1 := hidden (E.out.1 (by rw [HX.out, HY.out]; omega))
        clear E HC HD
        go_wp2
        go_ret
        exact ⟨by rw [E1.out]; rfl, _, rfl⟩
      · obtain rfl : j = m := by omega
        have E1 := hidden (E.out.2.2 (by rw [HX.out, HY.out]))
        clear E HC HD
        go_wp2
        go_ret
        exact ⟨by rw [E1.out]; rfl, _, rfl⟩

set_option maxHeartbeats 400000 in
theorem requal_any (p q : Option Addr) (n c m d : Nat) (xs ys : List Int) (w : World) (h : Byt w p n c xs) (k : Byt w q m d ys) :
    Calls Tryz.prog 14 #[.slice p n c, .slice q m d] w fun e w' => e = .returned (.bool (decide (xs = ys))) ∧ ∃ r, w' = w.drewN r := by
  have HC := hidden (rcompare_any p q n c m d xs ys w h k)
  have he : decide (xs = ys) = (cmpR xs ys == 0) := by
    rw [Bool.eq_iff_iff, decide_eq_true_eq, beq_iff_eq]
    exact ⟨fun e => by rw [e, cmpR_refl], cmpR_eq xs ys⟩
  have HE := hidden he
  clear h k he
  go_enter Tryz.func14, Tryz.ntmps14
  go_wp2_with (go_at_call 30; refine HC.out.mono ?_; rintro e w' ⟨rfl, r, rfl⟩)
  go_ret
  exact ⟨by rw [HE.out]; rfl, _, rfl⟩
end Go.Proofs.YtbpmanbpmlkmnaaGreatDoor

namespace Go.Proofs.YtbpmanbpmlkmnaaGreatDoor
open Go.RowKit
set_option linter.unusedVariables false

end Go.Proofs.YtbpmanbpmlkmnaaGreatDoor

namespace Go.Proofs.YtbpmanbpmlkmnaaGreatDoor

/-- An equation that no walk looks into. -/
structure Is {α : Type} (a b : α) : Prop where
  eq : a = b
end Go.Proofs.YtbpmanbpmlkmnaaGreatDoor

namespace Go.Proofs.YtbpmanbpmlkmnaaGreatDoor
open Go.RowKit
open Go.Maps (Keyed IsMap)
set_option linter.unusedVariables false
set_option maxRecDepth 100000

theorem Tryz.laidOutM : laidOutB Tryz.prog = true := by kernel_rfl
theorem Tryz.rowTr : (107 : TypeId) < Tryz.prog.types.size := of_decide_eq_true (by kernel_rfl)
theorem Tryz.wideTr : (match Tryz.prog.underlying 107 with | some (.array _ _) | some (.struct _) => true | _ => false) = true := by rw [Tryz.underlying107]
theorem lawTr : Keyed Tryz.prog 107 := Keyed.of_law (deep_law_laid Tryz.laidOutM (m := 2) (by omega) Tryz.rowTr (by kernel_rfl) Tryz.wideTr)
theorem Tryz.keyTypeTr : Tryz.prog.keyType 107 = true := by kernel_rfl
theorem Tryz.cellsTr : Tryz.prog.cellsOf 107 = 3 := by kernel_rfl
theorem Tryz.cellsInt : Tryz.prog.cellsOf 3 = 1 := by kernel_rfl
/-- A transform as a key. -/
def keyVal (t i k : Int) : Value := .agg #[.int .i64 t, .int .i64 i, .int .i64 k]
theorem wf_of {a : Int} (h : -9223372036854775808 ≤ a ∧ a ≤ 9223372036854775807) : (Lit.int .i64 a).wf = true := WalkArith.wf_i64 (by omega)
theorem keyOf_three {P : Program} {k e : TypeId} {fs : Array Go.Field} {f0 f1 f2 : Go.Field} (hk : P.underlying k = some (.struct fs)) (he : P.underlying e = some (.int .i64)) (hkt : P.keyType k = true) (hck : P.cellsOf k = 3) (hce : P.cellsOf e = 1) (hrow : k < P.types.size)
    (hall : fs.all (·.name != "_") = true) (hfs : fs.toList = [f0, f1, f2]) (t0 : f0.type = e) (t1 : f1.type = e) (t2 : f2.type = e) (o0 : f0.offset = 0) (o1 : f1.offset = 1) (o2 : f2.offset = 2)
    {a b c : Int} (ha : (Lit.int .i64 a).wf = true) (hb : (Lit.int .i64 b).wf = true) (hc : (Lit.int .i64 c).wf = true) : ∃ l, keyOf P k (.agg #[.int .i64 a, .int .i64 b, .int .i64 c]) = some l := by
  obtain ⟨m, hm⟩ : ∃ m, P.types.size = m + 1 := Nat.exists_eq_add_one_of_ne_zero (fun e => by rw [e] at hrow; exact Nat.not_lt_zero _ hrow)
  unfold keyOf
  rw [hk]
  simp [hkt, Value.formed, hk, hck, Program.keyLits, Value.cells, hm, he, hce, ha, hb, hc, hall, hfs, t0, t1, t2, o0, o1, o2]
theorem key_tr (t i k : Int) (h : IntT ⟨t, i, k⟩) : ∃ l, keyOf Tryz.prog 107 (keyVal t i k) = some l :=
  keyOf_three Tryz.underlying107 Tryz.underlying3 Tryz.keyTypeTr Tryz.cellsTr Tryz.cellsInt Tryz.rowTr (by simp) rfl rfl rfl rfl rfl rfl rfl (wf_of h.1) (wf_of h.2.1) (wf_of h.2.2)

/-- What the map reads as, and the transforms that it holds. -/
structure SeenD (D : DataW Unit) (ts : List Tr) : Prop where
  map : IsMap D
  at_ : ∀ (t i k : Int) (l : Lit), keyOf Tryz.prog 107 (keyVal t i k) = some l → D.atKey l (.lit (.bool false)) = .lit (.bool (decide ((⟨t, i, k⟩ : Tr) ∈ ts)))
def Seen (w : World) (b : Nat) (ts : List Tr) : Prop := ∃ D : DataW Unit, w.ownsMap Tryz.prog 107 (plainElem Tryz.prog 4) b ts.length D ∧ SeenD D ts
theorem Seen.made (w : World) : Seen (w.alloc (.map #[] 0)) w.heap.size [] := ⟨_, World.ownsMap_made _ _ _ _, ⟨[], rfl⟩, fun t i k l h => by simp [DataW.atKey]⟩
theorem Seen.lt {w : World} {b : Nat} {ts : List Tr} (h : Seen w b ts) : b < w.heap.size := by
  obtain ⟨D, h1, _⟩ := h
  exact h1.lt
theorem Seen.grown {w w' : World} {b : Nat} {ts : List Tr} {row : Option Nat} (h : Seen w b ts) (hg : w.grownBy w' row) (hne : some b ≠ row) : Seen w' b ts := by
  obtain ⟨D, h1, h2⟩ := h
  exact ⟨D, h1.kept hg hne, h2⟩
theorem Seen.notCells {w : World} {b : Nat} {ts : List Tr} (h : Seen w b ts) (cur : Array Value) (e : TypeId) (fz : Nat × Nat) : w.heap[b]? ≠ some (.cells cur e fz) := by
  obtain ⟨D, ⟨es, clock, h1, _⟩, _⟩ := h
  rw [h1]
  simp
theorem Tryz.zeroBool (w : World) : (zeroValue 4).run Tryz.prog w = .ok (.bool false) w := by kernel_rfl
theorem Seen.look {w : World} {b : Nat} {ts : List Tr} (h : Seen w b ts) (t i k : Int) (hi : IntT ⟨t, i, k⟩) (c : Bool) (hc : c = decide ((⟨t, i, k⟩ : Tr) ∈ ts)) :
    (Instr.lookup 115 (.map (some b)) (.agg #[.int .i64 t, .int .i64 i, .int .i64 k]) false).run Tryz.prog w = .ok (.bool c) w := by
  obtain ⟨D, h1, h2⟩ := h
  obtain ⟨l, hl⟩ := key_tr t i k hi
  obtain ⟨v, ps, hrun, hv⟩ := h1.lookup lawTr Tryz.underlying115 (Tryz.zeroBool w) (plainElem_bool Tryz.underlying4 false) hl
  rw [h2.at_ t i k l hl] at hv
  have : v = .bool c := by
    unfold plainElem at hv
    rw [Tryz.underlying4] at hv
    cases v <;> simp at hv
    rw [hv.1, hc]
  rw [← this]
  exact hrun
theorem SeenD.put {D : DataW Unit} {ts : List Tr} (h : SeenD D ts) (t i k : Int) (l : Lit) (hl : keyOf Tryz.prog 107 (keyVal t i k) = some l) : SeenD (D.put l (.lit (.bool true))) (ts ++ [⟨t, i, k⟩]) := by
  refine ⟨h.map.put _ _, fun t' i' k' l' hl' => ?_⟩
  by_cases he : l' = l
  · subst he
    rw [Maps.atKey_put_same h.map (lawTr.key hl)]
    have := lawTr.inj hl hl'
    simp [keyVal] at this
    obtain ⟨rfl, rfl, rfl⟩ := this
    simp
  · rw [Maps.atKey_put_other he, h.at_ t' i' k' l' hl']
    have hne : (⟨t', i', k'⟩ : Tr) ≠ ⟨t, i, k⟩ := by
      intro e
      simp at e
      obtain ⟨rfl, rfl, rfl⟩ := e
      rw [hl] at hl'
      simp at hl'
      exact he hl'.symm
    simp [hne]
/-- A store into the map as a law of the walk. -/
theorem wpList_seen (w : World) {ops : Array Oper} {rest : List Oper} {o : Oper} {a : Act} {Q : Exit → Act → World → Prop} (hg : o.guard = none) (m x v : Operand) (hop : o.op = Op.mapUpdate 115 m x v)
    (b : Nat) (ts : List Tr) (h : Seen w b ts) (hn : ts.length < maxLen) (hm : a.eval m = .map (some b)) (t i k : Int) (hx : a.eval x = .agg #[.int .i64 t, .int .i64 i, .int .i64 k]) (hv : a.eval v = .bool true) (hi : IntT ⟨t, i, k⟩)
    (hK : ∀ w', Seen w' b (ts ++ [⟨t, i, k⟩]) → w.grownBy w' (some b) → wpList Tryz.prog ops Q rest (a.put o.dst undef) w') : wpList Tryz.prog ops Q (o :: rest) a w := by
  obtain ⟨D, h1, h2⟩ := h
  obtain ⟨l, hl⟩ := key_tr t i k hi
  refine wpList_mapUpdate_own w hg m x v _ hop _ _ lawTr Tryz.underlying115 _ b _ D hm h1 hn _ _ l hx hv hl _ [] (plainElem_bool Tryz.underlying4 true) ?_
  intro w' h3 h4
  exact hK w' ⟨_, by simpa using h3, h2.put t i k l hl⟩ h4
end Go.Proofs.YtbpmanbpmlkmnaaGreatDoor

namespace Go.Proofs.YtbpmanbpmlkmnaaGreatDoor
open Go.RowKit
set_option linter.unusedVariables false

theorem Own.kept_row {w w' : World} {base : Nat} {e : TypeId} {v : Value} {xs : List Int} {k : Nat} (h : Own w base e v xs) (hg : w.grownBy w' (some k)) (hk : k < base) : Own w' base e v xs :=
  World.ownsRow.kept h hg (by
    rcases hv : v.ownBlock with _ | b
    · exact Or.inl rfl
    · have := (h.lt b hv).1
      exact Or.inr (by simp; omega))

set_option maxHeartbeats 800000 in
theorem mbytes_any (W w : World) (k : Nat) (h : Cod W w k) (n : Nat) (hn : n ≤ 100000) :
    Calls Tryz.prog 39 #[.pointer (some ⟨k, 0, none⟩), .int .i64 n] w fun e w' => ∃ p c ys, e = .returned (.slice p n c) ∧ Bod w' w.heap.size p n c ys ∧ Cod W w' k ∧ w.grownBy w' (some k) := by
  obtain ⟨i0, hi, hz0, hz1, hz2⟩ := info_parts Tryz.infoByte
  have hk := h.lt
  have H := hidden h
  clear h
  go_enter Tryz.func39, Tryz.ntmps39
  go_wp2
  go_loopw [5, 6] (fun u i wr => ∃ j : Nat, j ≤ n ∧ i = .int .i64 j ∧ ∃ ys : List Int, ys.length = j ∧ (∀ x ∈ ys, 0 ≤ x ∧ x ≤ 255) ∧ Own wr w.heap.size 5 u ys ∧ Cod W wr k ∧ w.grownBy wr (some k)) (fun _ i _ => n - (intOf i).toNat)
  case atStart => exact ⟨0, by omega, rfl, [], rfl, by simp, Own.nil _ _ _, H.out, grown_refl _ _⟩
  case round =>
    obtain ⟨j, hj, rfl, ys, hl, hr, ho, hc, hg⟩ := hrel
    have HO := hidden ho
    have HR := hidden hr
    have HC := hidden hc
    have HG := hidden hg
    clear ho hr hc hg H
    by_cases hlt : j < n
    · go_wp2_with (go_at_call 18; refine (next_any W _ k HC.out _ ?_).mono ?_; omega)
      rintro e w2 ⟨r, rfl, r0, r1, hc, hg⟩
      have HO2 := hidden (HO.out.kept_row hg hk)
      have HC2 := hidden hc
      have HG2 := hidden (grown_trans HG.out hg)
      clear hc hg HO HC HG
      go_wp2_with (at_builtin; go_loud (refine wpList_append_byt _ rfl _ _ 22 rfl w.heap.size 5 i0 (.int .u8 0) Tryz.underlying22 hi hz0 hz1 hz2 rfl _ _ rfl (HO2.out.alloc _) _ _ _ _ _ rfl (one_byte _ _ ((r + j * 7) % 256) ?c0 ?c1) rfl ?c2 ?c3 ?_))
      case c0 => omega
      case c1 => rw [World.cell?_alloc_at _ _ _ _ rfl]; rfl
      case c2 => omega
      case c3 => have := HG2.out.size; simp; omega
      intro u w4 hown hg
      have HC4 := hidden ((HC2.out.alloc _).grown hg (fun e => by have := (HO2.out.lt k e.symm).1; omega) (fun j hj => by have := (HO2.out.lt j hj).1; have := HC2.out.bel.size; have := HC2.out.base; omega))
      have HG4 := hidden (grown_own (grown_alloc_new HG2.out _) hg (fun j hj => (HO2.out.lt j hj).1))
      have HO4 := hidden hown
      clear hown hg HO2 HC2 HG2
      go_wp2
      go_roundw
      case rel => exact ⟨j + 1, by omega, by go_num, _, by simp [hl], rng_append HR.out (by intro z hz; simp at hz; omega), HO4.out, HC4.out, HG4.out⟩
      case measure => simp [intOf]; omega
    · obtain rfl : j = n := by omega
      obtain ⟨p, c, rfl, hb⟩ := HO.out.bod hl HR.out
      have HB := hidden hb
      clear hb HO HR
      go_wp2
      go_ret
      exact ⟨p, c, ys, rfl, HB.out, HC.out, HG.out⟩
end Go.Proofs.YtbpmanbpmlkmnaaGreatDoor

namespace Go.Proofs.YtbpmanbpmlkmnaaGreatDoor
open Go.RowKit
set_option linter.unusedVariables false

set_option maxHeartbeats 400000 in
theorem rnumber_yes (p : Option Addr) (n c : Nat) (xs : List Int) (w : World) (h : Byt w p n c xs) (a k : Nat) (h1 : 1 ≤ k) (h8 : k ≤ 8) (hin : a + k ≤ n) :
    Calls Tryz.prog 22 #[.slice p n c, .int .i64 a, .int .i64 k] w fun e w' => e = .returned (.tuple #[.int .u64 (val ((xs.drop a).take k)), .bool true]) ∧ w = w' := by
  have hn := h.le
  have hcap := h.cap
  obtain ⟨b, o, rfl, hc⟩ := h.at_ (by omega)
  have hl : ((xs.drop a).take k).length = k := by have := h.len; simp; omega
  have hr : ∀ x ∈ (xs.drop a).take k, 0 ≤ x ∧ x ≤ 255 := rng_take (rng_drop h.rng _) _
  have hcc : ∀ j, j < k → w.cell? ⟨b, o + (a + j), none⟩ = some (.int .u8 (((xs.drop a).take k).getD j 0)) := fun j hj => by
    rw [hc (a + j) (by omega)]
    simp [List.getD_eq_getElem?_getD, List.getElem?_take_of_lt hj]
  generalize (xs.drop a).take k = ys at hl hr hcc
  clear hc h
  go_enter Tryz.func22, Tryz.ntmps22
  go_wp2
  go_loop [8, 9] (fun v i => ∃ j : Nat, j ≤ k ∧ i = .int .i64 ((a + j : Nat) : Int) ∧ v = .int .u64 (val (ys.take j))) (fun _ i => a + k - (intOf i).toNat)
  case atStart => exact ⟨0, by omega, rfl, rfl⟩
  case round =>
    obtain ⟨j, hj, rfl, rfl⟩ := hrel
    by_cases hlt : j < k
    · have hcell := hcc j hlt
      have hb := rng_getD hr j
      have hv := val_56 (ys.take j) (rng_take hr j) (by simp; omega)
      have hs := hidden (val_step ys j (by omega))
      have ho := or_byte (val (ys.take j)) (ys.getD j 0) hv.1 hv.2 hb.1 hb.2
      generalize val (ys.take j) = v at *
      generalize ys.getD j 0 = x at *
      clear hcc hr hl
      go_wp2
      go_round
      case rel => exact ⟨j + 1, by omega, by go_num, by rw [hs.out]⟩
      case measure => simp [intOf]; omega
    · obtain rfl : j = k := by omega
      have hy : ys.take j = ys := List.take_of_length_le (by omega)
      clear hcc hr
      go_wp2
      go_ret2
      exact ⟨rfl, rfl⟩

end Go.Proofs.YtbpmanbpmlkmnaaGreatDoor
