/-
  Plain mathematics, no program: proposals as bytes, written and read.
-/
import Derived.Test.YtblpkbjbaajdeaaNum
namespace Go.Proofs.Ytblpkbjbaajdeaa
set_option linter.unusedVariables false

/-- A transform: its type, its number, its key length. -/
structure Tr where
  t : Int
  i : Int
  k : Int
  deriving DecidableEq
/-- A proposal: its number, its protocol, its SPI, its transforms. -/
structure Pr where
  n : Int
  p : Int
  s : List Int
  ts : List Tr
  deriving DecidableEq

/-- The number of two bytes at a place. -/
def w2 (xs : List Int) (a : Nat) : Int := xs.getD a 0 * 256 + xs.getD (a + 1) 0
/-- The attributes of a transform: the key length, and whether they are right. -/
def attrV (xs : List Int) : Int × Bool := if xs.length = 0 then (0, true) else if xs.length ≠ 4 ∨ w2 xs 0 ≠ 32782 ∨ w2 xs 2 = 0 then (0, false) else (w2 xs 2, true)
/-- The transforms that fill the bytes. -/
def trsF : Nat → List Int → Option (List Tr)
  | 0, xs => if xs.length = 0 then some [] else none
  | f + 1, xs => if xs.length = 0 then some [] else if xs.length < 8 then none else if w2 xs 2 < 8 ∨ (xs.length : Int) < w2 xs 2 then none
    else if xs.getD 0 0 ≠ (if (xs.length : Int) = w2 xs 2 then 0 else 3) ∨ (attrV ((xs.drop 8).take ((w2 xs 2).toNat - 8))).2 = false then none
    else (trsF f (xs.drop (w2 xs 2).toNat)).map (⟨xs.getD 4 0, w2 xs 6, (attrV ((xs.drop 8).take ((w2 xs 2).toNat - 8))).1⟩ :: ·)
def trsV (xs : List Int) : Option (List Tr) := trsF xs.length xs
/-- The proposals that fill the bytes. -/
def prsF : Nat → List Int → Option (List Pr)
  | 0, xs => if xs.length = 0 then some [] else none
  | f + 1, xs => if xs.length = 0 then some [] else if xs.length < 8 then none else if w2 xs 2 < 8 ∨ (xs.length : Int) < w2 xs 2 then none
    else if xs.getD 0 0 ≠ (if (xs.length : Int) = w2 xs 2 then 0 else 2) ∨ w2 xs 2 < 8 + xs.getD 6 0 then none
    else match trsV ((xs.take (w2 xs 2).toNat).drop (8 + (xs.getD 6 0).toNat)) with
      | none => none
      | some ts => if (ts.length : Int) ≠ xs.getD 7 0 then none
        else (prsF f (xs.drop (w2 xs 2).toNat)).map (⟨xs.getD 4 0, xs.getD 5 0, (xs.drop 8).take (xs.getD 6 0).toNat, ts⟩ :: ·)
def prsV (xs : List Int) : Option (List Pr) := prsF xs.length xs

theorem trsF_fuel : ∀ (f g : Nat) (xs : List Int), xs.length ≤ f → xs.length ≤ g → trsF f xs = trsF g xs
  | 0, g, xs, h, _ => by
    have h0 : xs.length = 0 := by omega
    cases g <;> simp [trsF, h0]
  | f + 1, 0, xs, _, h => by
    have h0 : xs.length = 0 := by omega
    simp [trsF, h0]
  | f + 1, g + 1, xs, h1, h2 => by
    rw [trsF, trsF]
    by_cases h0 : xs.length = 0
    · rw [if_pos h0, if_pos h0]
    by_cases h8 : xs.length < 8
    · rw [if_neg h0, if_neg h0, if_pos h8, if_pos h8]
    by_cases hn : w2 xs 2 < 8 ∨ (xs.length : Int) < w2 xs 2
    · rw [if_neg h0, if_neg h0, if_neg h8, if_neg h8, if_pos hn, if_pos hn]
    rw [if_neg h0, if_neg h0, if_neg h8, if_neg h8, if_neg hn, if_neg hn, trsF_fuel f g _ (by rw [List.length_drop]; omega) (by rw [List.length_drop]; omega)]
theorem prsF_fuel : ∀ (f g : Nat) (xs : List Int), xs.length ≤ f → xs.length ≤ g → prsF f xs = prsF g xs
  | 0, g, xs, h, _ => by
    have h0 : xs.length = 0 := by omega
    cases g <;> simp [prsF, h0]
  | f + 1, 0, xs, _, h => by
    have h0 : xs.length = 0 := by omega
    simp [prsF, h0]
  | f + 1, g + 1, xs, h1, h2 => by
    rw [prsF, prsF]
    by_cases h0 : xs.length = 0
    · rw [if_pos h0, if_pos h0]
    by_cases h8 : xs.length < 8
    · rw [if_neg h0, if_neg h0, if_pos h8, if_pos h8]
    by_cases hn : w2 xs 2 < 8 ∨ (xs.length : Int) < w2 xs 2
    · rw [if_neg h0, if_neg h0, if_neg h8, if_neg h8, if_pos hn, if_pos hn]
    rw [if_neg h0, if_neg h0, if_neg h8, if_neg h8, if_neg hn, if_neg hn, prsF_fuel f g _ (by rw [List.length_drop]; omega) (by rw [List.length_drop]; omega)]
theorem trsV_nil (xs : List Int) (h : xs.length = 0) : trsV xs = some [] := by
  rw [trsV, h, trsF, if_pos h]
theorem prsV_nil (xs : List Int) (h : xs.length = 0) : prsV xs = some [] := by
  rw [prsV, h, prsF, if_pos h]
theorem trsV_step (xs : List Int) (h : xs.length ≠ 0) : trsV xs = if xs.length < 8 then none else if w2 xs 2 < 8 ∨ (xs.length : Int) < w2 xs 2 then none
    else if xs.getD 0 0 ≠ (if (xs.length : Int) = w2 xs 2 then 0 else 3) ∨ (attrV ((xs.drop 8).take ((w2 xs 2).toNat - 8))).2 = false then none
    else (trsV (xs.drop (w2 xs 2).toNat)).map (⟨xs.getD 4 0, w2 xs 6, (attrV ((xs.drop 8).take ((w2 xs 2).toNat - 8))).1⟩ :: ·) := by
  obtain ⟨m, hm⟩ : ∃ m, xs.length = m + 1 := ⟨xs.length - 1, by omega⟩
  rw [trsV, trsF_fuel xs.length (m + 1) xs (by omega) (by omega), trsF, if_neg h]
  by_cases h8 : xs.length < 8
  · rw [if_pos h8, if_pos h8]
  by_cases hn : w2 xs 2 < 8 ∨ (xs.length : Int) < w2 xs 2
  · rw [if_neg h8, if_neg h8, if_pos hn, if_pos hn]
  rw [if_neg h8, if_neg h8, if_neg hn, if_neg hn, trsV, trsF_fuel m _ _ (by rw [List.length_drop]; omega) (Nat.le_refl _)]
theorem prsV_step (xs : List Int) (h : xs.length ≠ 0) : prsV xs = if xs.length < 8 then none else if w2 xs 2 < 8 ∨ (xs.length : Int) < w2 xs 2 then none
    else if xs.getD 0 0 ≠ (if (xs.length : Int) = w2 xs 2 then 0 else 2) ∨ w2 xs 2 < 8 + xs.getD 6 0 then none
    else match trsV ((xs.take (w2 xs 2).toNat).drop (8 + (xs.getD 6 0).toNat)) with
      | none => none
      | some ts => if (ts.length : Int) ≠ xs.getD 7 0 then none
        else (prsV (xs.drop (w2 xs 2).toNat)).map (⟨xs.getD 4 0, xs.getD 5 0, (xs.drop 8).take (xs.getD 6 0).toNat, ts⟩ :: ·) := by
  obtain ⟨m, hm⟩ : ∃ m, xs.length = m + 1 := ⟨xs.length - 1, by omega⟩
  rw [prsV, prsF_fuel xs.length (m + 1) xs (by omega) (by omega), prsF, if_neg h]
  by_cases h8 : xs.length < 8
  · rw [if_pos h8, if_pos h8]
  by_cases hn : w2 xs 2 < 8 ∨ (xs.length : Int) < w2 xs 2
  · rw [if_neg h8, if_neg h8, if_pos hn, if_pos hn]
  rw [if_neg h8, if_neg h8, if_neg hn, if_neg hn, prsV, prsF_fuel m _ _ (by rw [List.length_drop]; omega) (Nat.le_refl _)]

/-- The errors of Check. -/
def errTrs : List Tr → List Tr → Int
  | _, [] => 0
  | seen, x :: l => if x.t < 1 ∨ 5 < x.t ∨ x.i < 0 ∨ 65535 < x.i ∨ x.k < 0 ∨ 65535 < x.k then 5 else if x ∈ seen then 9 else errTrs (seen ++ [x]) l
def errPr (p : Pr) (n : Int) : Int :=
  if p.n ≠ n then 7 else if p.p < 1 ∨ 3 < p.p then 5 else if (p.p = 1 ∧ p.s.length ≠ 0 ∧ p.s.length ≠ 8) ∨ (p.p ≠ 1 ∧ p.s.length ≠ 4) then 20
  else if p.ts.length = 0 then 8 else if 24 < p.ts.length then 10 else errTrs [] p.ts
def errPrs : Int → List Pr → Int
  | _, [] => 0
  | n, p :: l => if errPr p n ≠ 0 then errPr p n else errPrs (n + 1) l
def checkP (l : List Pr) : Int := if l.length = 0 then 8 else if 8 < l.length then 10 else errPrs 1 l
/-- What Parse returns. -/
def parseP (xs : List Int) : List Pr × Int := if xs.length = 0 then ([], 1) else match prsV xs with
  | none => ([], 4)
  | some l => if checkP l ≠ 0 then ([], checkP l) else (l, 0)

/-- One transform's bytes. -/
def lenT (x : Tr) : Int := if x.k ≠ 0 then 12 else 8
def encT (more : Int) (x : Tr) : List Int := [more, 0] ++ (be 2 (lenT x) ++ ([x.t % 256, 0] ++ (be 2 x.i ++ (if x.k ≠ 0 then be 2 32782 ++ be 2 x.k else []))))
def encTs : List Tr → List Int
  | [] => []
  | x :: l => encT (if l.length = 0 then 0 else 3) x ++ encTs l
def encP (more : Int) (p : Pr) : List Int := [more, 0] ++ (be 2 (8 + (p.s.length : Int) + (encTs p.ts).length) ++ ([p.n % 256, p.p % 256, (p.s.length : Int) % 256, (p.ts.length : Int) % 256] ++ (p.s ++ encTs p.ts)))
def encPs : List Pr → List Int
  | [] => []
  | p :: l => encP (if l.length = 0 then 0 else 2) p ++ encPs l
def buildP (l : List Pr) : List Int × Int := if checkP l ≠ 0 then ([], checkP l) else (encPs l, 0)

theorem be2' (v : Int) (h : 0 ≤ v ∧ v ≤ 65535) : be 2 v = [v / 256, v % 256] := by
  simp [be]
  omega
/-- A transform that passed. -/
structure OkT (x : Tr) : Prop where
  t : 1 ≤ x.t ∧ x.t ≤ 5
  i : 0 ≤ x.i ∧ x.i ≤ 65535
  k : 0 ≤ x.k ∧ x.k ≤ 65535
theorem errTrs_ok : ∀ (l seen : List Tr), errTrs seen l = 0 → ∀ x ∈ l, OkT x
  | [], _, _, x, hx => by cases hx
  | y :: l, seen, h, x, hx => by
    unfold errTrs at h
    split at h
    · omega
    split at h
    · omega
    rename_i h1 h2
    rcases List.mem_cons.1 hx with rfl | hx
    · exact ⟨by omega, by omega, by omega⟩
    · exact errTrs_ok l _ h x hx
theorem encT_len (more : Int) (x : Tr) : ((encT more x).length : Int) = lenT x := by
  unfold encT lenT
  split <;> simp [be_len]
theorem encT_eq (more : Int) (x : Tr) (h : OkT x) : encT more x = [more, 0, 0, lenT x, x.t, 0, x.i / 256, x.i % 256] ++ (if x.k ≠ 0 then [128, 14, x.k / 256, x.k % 256] else []) := by
  have ht := h.t
  have e1 : x.t % 256 = x.t := by omega
  unfold encT
  rw [be2' _ h.i, e1]
  unfold lenT
  split
  · rw [be2' 12 (by omega), be2' 32782 (by omega), be2' _ h.k]
    simp
  · rw [be2' 8 (by omega)]
    simp

theorem attr_enc (x : Tr) (h : OkT x) : attrV (if x.k ≠ 0 then [128, 14, x.k / 256, x.k % 256] else []) = (x.k, true) := by
  have hk := h.k
  split
  · rename_i h0
    unfold attrV
    rw [if_neg (by simp), if_neg (by simp [w2]; omega)]
    simp [w2]
    omega
  · rename_i h0
    have : x.k = 0 := by omega
    simp [attrV, this]

theorem encTs_cons (x : Tr) (l : List Tr) : ((encTs (x :: l)).length : Int) = lenT x + (encTs l).length := by
  have := encT_len (if l.length = 0 then 0 else 3) x
  rw [encTs, List.length_append]
  omega
theorem encTs_zero (l : List Tr) : (encTs l).length = 0 ↔ l.length = 0 := by
  cases l with
  | nil => simp [encTs]
  | cons y m =>
    have h1 := encTs_cons y m
    have h2 : lenT y = 8 ∨ lenT y = 12 := by unfold lenT; split <;> omega
    simp only [List.length_cons]
    constructor <;> intro h <;> omega
theorem encTs_le : ∀ l : List Tr, (encTs l).length ≤ 12 * l.length
  | [] => by simp [encTs]
  | x :: l => by
    have h1 := encTs_cons x l
    have h2 : lenT x = 8 ∨ lenT x = 12 := by unfold lenT; split <;> omega
    have h3 := encTs_le l
    simp only [List.length_cons]
    omega

/-- Transforms that were written are read again. -/
theorem trs_read : ∀ (l : List Tr), (∀ x ∈ l, OkT x) → trsV (encTs l) = some l
  | [], _ => trsV_nil _ rfl
  | x :: l, h => by
    have hx := h x (by simp)
    have hl : lenT x = 8 ∨ lenT x = 12 := by unfold lenT; split <;> omega
    have hle := encT_len (if l.length = 0 then 0 else 3) x
    have hlen : ((encTs (x :: l)).length : Int) = lenT x + (encTs l).length := by rw [encTs, List.length_append]; omega
    have heq : encTs (x :: l) = [(if l.length = 0 then 0 else 3), 0, 0, lenT x, x.t, 0, x.i / 256, x.i % 256] ++ ((if x.k ≠ 0 then [128, 14, x.k / 256, x.k % 256] else []) ++ encTs l) := by rw [encTs, encT_eq _ _ hx, List.append_assoc]
    have hw : w2 (encTs (x :: l)) 2 = lenT x := by rw [heq]; simp [w2]
    have hn0 := encTs_zero l
    have hat : ((encTs (x :: l)).drop 8).take ((lenT x).toNat - 8) = (if x.k ≠ 0 then [128, 14, x.k / 256, x.k % 256] else []) := by
      rw [heq]
      unfold lenT
      split <;> simp
    have hdr : (encTs (x :: l)).drop (lenT x).toNat = encTs l := by
      have : (lenT x).toNat = (encT (if l.length = 0 then 0 else 3) x).length := by omega
      rw [this, encTs, List.drop_left]
    have h0 : (encTs (x :: l)).getD 0 0 = if l.length = 0 then 0 else 3 := by rw [heq]; simp
    have h4 : (encTs (x :: l)).getD 4 0 = x.t := by rw [heq]; simp
    have h6 : w2 (encTs (x :: l)) 6 = x.i := by rw [heq]; simp [w2]; omega
    rw [trsV_step _ (by omega), if_neg (by omega), hw, if_neg (by omega), hat, attr_enc x hx, h0, h4, h6, hdr, trs_read l (fun y hy => h y (by simp [hy]))]
    rw [if_neg]
    · simp
    · simp only [Bool.true_eq_false, or_false, ne_eq, Decidable.not_not]
      by_cases hz : l.length = 0
      · rw [if_pos hz, if_pos (by have := hn0.2 hz; omega)]
      · rw [if_neg hz, if_neg (by have := mt hn0.1 hz; omega)]

/-- A proposal that passed. -/
structure OkP (q : Pr) : Prop where
  n : 0 ≤ q.n ∧ q.n ≤ 255
  p : 1 ≤ q.p ∧ q.p ≤ 3
  s : q.s.length ≤ 8
  some_ : q.ts.length ≠ 0
  few : q.ts.length ≤ 24
  ts : ∀ x ∈ q.ts, OkT x
theorem errPr_ok {p : Pr} {n : Int} (h : errPr p n = 0) (h0 : 0 ≤ n) (h1 : n ≤ 255) : OkP p := by
  unfold errPr at h
  split at h
  · omega
  split at h
  · omega
  split at h
  · omega
  split at h
  · omega
  split at h
  · omega
  exact ⟨by omega, by omega, by omega, by omega, by omega, errTrs_ok _ _ h⟩
theorem errPrs_ok : ∀ (l : List Pr) (n : Int), errPrs n l = 0 → 0 ≤ n → n + l.length ≤ 256 → ∀ p ∈ l, OkP p
  | [], _, _, _, _, p, hp => by cases hp
  | q :: l, n, h, h0, h1, p, hp => by
    simp only [List.length_cons] at h1
    unfold errPrs at h
    split at h
    · rename_i h2
      exact absurd h h2
    · rename_i h2
      rcases List.mem_cons.1 hp with rfl | hp
      · exact errPr_ok (by omega) h0 (by omega)
      · exact errPrs_ok l (n + 1) h (by omega) (by omega) p hp
theorem checkP_ok {l : List Pr} (h : checkP l = 0) : l.length ≠ 0 ∧ l.length ≤ 8 ∧ ∀ p ∈ l, OkP p := by
  unfold checkP at h
  split at h
  · omega
  split at h
  · omega
  exact ⟨by omega, by omega, errPrs_ok l 1 h (by omega) (by omega)⟩

def lenP (p : Pr) : Nat := 8 + p.s.length + (encTs p.ts).length
theorem lenP_le {p : Pr} (h : OkP p) : lenP p ≤ 304 := by
  have := encTs_le p.ts
  have := h.s
  have := h.few
  unfold lenP
  omega
theorem encP_len (more : Int) (p : Pr) : (encP more p).length = lenP p := by
  simp [encP, lenP, be_len]
  omega
theorem encP_eq (more : Int) (p : Pr) (h : OkP p) : encP more p = [more, 0, (lenP p : Int) / 256, (lenP p : Int) % 256, p.n, p.p, (p.s.length : Int), (p.ts.length : Int)] ++ (p.s ++ encTs p.ts) := by
  have hn := h.n
  have hp := h.p
  have hs := h.s
  have hf := h.few
  have hl := lenP_le h
  have e1 : p.n % 256 = p.n := by omega
  have e2 : p.p % 256 = p.p := by omega
  have e3 : (p.s.length : Int) % 256 = p.s.length := by omega
  have e4 : (p.ts.length : Int) % 256 = p.ts.length := by omega
  have e5 : 8 + (p.s.length : Int) + ((encTs p.ts).length : Int) = (lenP p : Int) := by unfold lenP; omega
  unfold encP
  rw [e1, e2, e3, e4, e5, be2' _ (by omega)]
  simp

/-- What is read of one proposal's bytes with others behind. -/
structure HeadP (p : Pr) (more : Int) (ys xs : List Int) : Prop where
  len : xs.length = lenP p + ys.length
  b0 : xs.getD 0 0 = more
  b2 : w2 xs 2 = lenP p
  b4 : xs.getD 4 0 = p.n
  b5 : xs.getD 5 0 = p.p
  b6 : xs.getD 6 0 = p.s.length
  b7 : xs.getD 7 0 = p.ts.length
  spi : (xs.drop 8).take p.s.length = p.s
  trs : (xs.take (lenP p)).drop (8 + p.s.length) = encTs p.ts
  rest : xs.drop (lenP p) = ys
theorem head_noise (p : Pr) (h : OkP p) (more z : Int) (ys : List Int) : HeadP p more ys ((encP more p ++ ys).set 1 z) := by
  have hl := encP_len more p
  have hle := lenP_le h
  have hge : 8 ≤ lenP p := by unfold lenP; omega
  have heq : (encP more p ++ ys).set 1 z = [more, z, (lenP p : Int) / 256, (lenP p : Int) % 256, p.n, p.p, (p.s.length : Int), (p.ts.length : Int)] ++ (p.s ++ (encTs p.ts ++ ys)) := by rw [encP_eq _ _ h]; simp
  have heq2 : (encP more p ++ ys).set 1 z = ([more, z, (lenP p : Int) / 256, (lenP p : Int) % 256, p.n, p.p, (p.s.length : Int), (p.ts.length : Int)] ++ (p.s ++ encTs p.ts)) ++ ys := by rw [heq]; simp
  have hl2 : ([more, z, (lenP p : Int) / 256, (lenP p : Int) % 256, p.n, p.p, (p.s.length : Int), (p.ts.length : Int)] ++ (p.s ++ encTs p.ts)).length = lenP p := by simp [lenP]; omega
  refine ⟨by rw [List.length_set, List.length_append, hl], ?_, ?_, ?_, ?_, ?_, ?_, ?_, ?_, ?_⟩
  · rw [heq]; simp
  · rw [heq]; simp [w2]; omega
  · rw [heq]; simp
  · rw [heq]; simp
  · rw [heq]; simp
  · rw [heq]; simp
  · rw [heq]; simp
  · rw [heq2, List.take_left' hl2]
    have : 8 + p.s.length = ([more, z, (lenP p : Int) / 256, (lenP p : Int) % 256, p.n, p.p, (p.s.length : Int), (p.ts.length : Int)] ++ p.s).length := by simp; omega
    rw [← List.append_assoc, this, List.drop_left]
  · rw [heq2, List.drop_left' hl2]
theorem head_plain (p : Pr) (h : OkP p) (more : Int) (ys : List Int) : HeadP p more ys (encP more p ++ ys) := by
  have := head_noise p h more ((encP more p ++ ys).getD 1 0) ys
  have e : (encP more p ++ ys).set 1 ((encP more p ++ ys).getD 1 0) = encP more p ++ ys := by
    have hge : 1 < (encP more p ++ ys).length := by rw [List.length_append, encP_len]; unfold lenP; omega
    apply List.ext_getElem (by simp)
    intro i h1 h2
    rw [List.getElem_set]
    split
    · rename_i hi
      subst hi
      simp [List.getD_eq_getElem?_getD, List.getElem?_eq_getElem hge]
    · rfl
  rw [e] at this
  exact this
/-- The step of the reader at a proposal that was written. -/
theorem HeadP.step {p : Pr} {more : Int} {ys xs : List Int} (hh : HeadP p more ys xs) (h : OkP p) : prsV xs = if more ≠ (if ys.length = 0 then 0 else 2) then none else (prsV ys).map (p :: ·) := by
  have hge : 8 ≤ lenP p := by unfold lenP; omega
  have hl := hh.len
  have hs := hh.spi
  have ht := hh.trs
  have hsp : 8 + p.s.length ≤ lenP p := by unfold lenP; omega
  rw [prsV_step _ (by omega), if_neg (by omega), hh.b2, if_neg (by omega), hh.b0, hh.b6]
  have e1 : ((8 : Nat) + ((p.s.length : Int)).toNat) = 8 + p.s.length := by omega
  have e2 : ((lenP p : Int)).toNat = lenP p := by omega
  by_cases hm : more ≠ (if ys.length = 0 then 0 else 2)
  · rw [if_pos hm, if_pos]
    left
    intro he
    apply hm
    rw [he]
    by_cases hy : ys.length = 0
    · rw [if_pos hy, if_pos (by omega)]
    · rw [if_neg hy, if_neg (by omega)]
  · rw [if_neg hm, if_neg]
    · rw [e2, e1, ht, trs_read _ h.ts]
      simp only
      rw [hh.b7, if_neg (by simp), hh.rest, hh.b4, hh.b5, Int.toNat_natCast, hs]
    · rintro (h1 | h1)
      · apply h1
        rw [Decidable.not_not.1 hm]
        by_cases hy : ys.length = 0
        · rw [if_pos hy, if_pos (by omega)]
        · rw [if_neg hy, if_neg (by omega)]
      · omega
theorem encPs_cons (p : Pr) (l : List Pr) : encPs (p :: l) = encP (if l.length = 0 then 0 else 2) p ++ encPs l := rfl
theorem encPs_zero (l : List Pr) : (encPs l).length = 0 ↔ l.length = 0 := by
  cases l with
  | nil => simp [encPs]
  | cons y m =>
    rw [encPs_cons, List.length_append, encP_len]
    simp only [List.length_cons]
    unfold lenP
    constructor <;> intro h <;> omega
theorem more_ok (l : List Pr) : ¬ ((if l.length = 0 then (0 : Int) else 2) ≠ (if (encPs l).length = 0 then 0 else 2)) := by
  have := encPs_zero l
  by_cases h : l.length = 0
  · rw [if_pos h, if_pos (this.2 h)]
    simp
  · rw [if_neg h, if_neg (fun e => h (this.1 e))]
    simp
/-- Proposals that were written are read again. -/
theorem prs_read : ∀ (l : List Pr), (∀ p ∈ l, OkP p) → prsV (encPs l) = some l
  | [], _ => prsV_nil _ rfl
  | p :: l, h => by
    rw [encPs_cons, (head_plain p (h p (by simp)) _ _).step (h p (by simp)), if_neg (more_ok l), prs_read l (fun q hq => h q (by simp [hq]))]
    rfl
/-- The byte that does not count. -/
theorem prs_noise (p : Pr) (l : List Pr) (h : ∀ q ∈ p :: l, OkP q) (z : Int) : prsV ((encPs (p :: l)).set 1 z) = some (p :: l) := by
  rw [encPs_cons, (head_noise p (h p (by simp)) _ z _).step (h p (by simp)), if_neg (more_ok l), prs_read l (fun q hq => h q (by simp [hq]))]
  rfl
/-- Bytes that are cut short are no proposals. -/
theorem prs_cut : ∀ (l : List Pr), (∀ p ∈ l, OkP p) → ∀ n, 0 < n → n < (encPs l).length → prsV ((encPs l).take n) = none
  | [], _, n, _, h => by simp [encPs] at h
  | p :: l, h, n, h0, hn => by
    have hp := h p (by simp)
    have hh := head_plain p hp (if l.length = 0 then 0 else 2) (encPs l)
    rw [← encPs_cons] at hh
    have hl := hh.len
    have hge : 8 ≤ lenP p := by unfold lenP; omega
    have htl : ((encPs (p :: l)).take n).length = n := by rw [List.length_take]; omega
    by_cases h8 : n < 8
    · rw [prsV_step _ (by omega), htl, if_pos h8]
    by_cases hsh : n < lenP p
    · have hw : w2 ((encPs (p :: l)).take n) 2 = lenP p := by
        rw [← hh.b2]
        simp [w2, List.getD_eq_getElem?_getD, List.getElem?_take_of_lt (show 2 < n by omega), List.getElem?_take_of_lt (show 3 < n by omega)]
      rw [prsV_step _ (by omega), htl, if_neg h8, hw, if_pos (by omega)]
    · have e : (encPs (p :: l)).take n = encP (if l.length = 0 then 0 else 2) p ++ (encPs l).take (n - lenP p) := by
        rw [encPs_cons, List.take_append, encP_len, List.take_of_length_le (by rw [encP_len]; omega)]
      have hlz : l.length ≠ 0 := fun hz => by
        have := (encPs_zero l).2 hz
        omega
      rw [e, (head_plain p hp _ _).step hp, if_neg hlz]
      by_cases hz : n - lenP p = 0
      · rw [if_pos]
        rw [hz]
        simp
      · rw [if_neg]
        · rw [prs_cut l (fun q hq => h q (by simp [hq])) (n - lenP p) (by omega) (by omega)]
          rfl
        · have : ((encPs l).take (n - lenP p)).length ≠ 0 := by rw [List.length_take]; omega
          rw [if_neg this]
          simp
/-- Nothing may follow. -/
theorem prs_more : ∀ (l : List Pr), l.length ≠ 0 → (∀ p ∈ l, OkP p) → ∀ zs : List Int, zs.length ≠ 0 → prsV (encPs l ++ zs) = none
  | [], h, _, _, _ => absurd rfl h
  | p :: l, _, h, zs, hz => by
    have hp := h p (by simp)
    have e : encPs (p :: l) ++ zs = encP (if l.length = 0 then 0 else 2) p ++ (encPs l ++ zs) := by rw [encPs_cons, List.append_assoc]
    have hne : (encPs l ++ zs).length ≠ 0 := by rw [List.length_append]; omega
    rw [e, (head_plain p hp _ _).step hp, if_neg hne]
    by_cases hlz : l.length = 0
    · rw [if_pos hlz, if_pos (by decide)]
    · rw [if_neg hlz, if_neg (by simp), prs_more l hlz (fun q hq => h q (by simp [hq])) zs hz]
      rfl

/-- The whole: what Build writes is read by Parse. -/
theorem parse_build {l : List Pr} (h : checkP l = 0) : parseP (encPs l) = (l, 0) := by
  obtain ⟨h1, h2, h3⟩ := checkP_ok h
  rw [parseP, if_neg (fun e => h1 ((encPs_zero l).1 e)), prs_read l h3]
  simp [h]
theorem parse_noise {l : List Pr} (h : checkP l = 0) (z : Int) : parseP ((encPs l).set 1 z) = (l, 0) := by
  obtain ⟨h1, h2, h3⟩ := checkP_ok h
  rw [parseP, if_neg (by rw [List.length_set]; exact fun e => h1 ((encPs_zero l).1 e))]
  cases l with
  | nil => exact absurd rfl h1
  | cons p l =>
    rw [prs_noise p l h3 z]
    simp [h]
theorem parse_cutP {l : List Pr} (h : checkP l = 0) (n : Nat) (hn : n < (encPs l).length) : parseP ((encPs l).take n) = ([], if n = 0 then 1 else 4) := by
  obtain ⟨h1, h2, h3⟩ := checkP_ok h
  have hl : ((encPs l).take n).length = n := by rw [List.length_take]; omega
  rw [parseP, hl]
  by_cases h0 : n = 0
  · rw [if_pos h0, if_pos h0]
  · rw [if_neg h0, if_neg h0, prs_cut l h3 n (by omega) hn]
theorem parse_moreP {l : List Pr} (h : checkP l = 0) (zs : List Int) (hz : zs.length ≠ 0) : parseP (encPs l ++ zs) = ([], 4) := by
  obtain ⟨h1, h2, h3⟩ := checkP_ok h
  rw [parseP, if_neg (by rw [List.length_append]; omega), prs_more l h1 h3 zs hz]
end Go.Proofs.Ytblpkbjbaajdeaa
