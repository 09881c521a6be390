/-
  A statement that draws its order and holds a chain of calls and some allocations: when the loads have been taken first, the calls come up one after another, the allocations anywhere between.
-/
import Derived.Test.YtilnbmlbahflkaaMFlow
namespace Go.Proofs.Ytilnbmlbahflkaa
open Go Go.RowKit
set_option linter.unusedVariables false

/-- A function changed at one place. -/
def upd {α : Type} (f : Nat → α) (k : Nat) (x : α) : Nat → α := fun i => if i = k then x else f i
theorem upd_same {α : Type} (f : Nat → α) (k : Nat) (x : α) : upd f k x k = x := by simp [upd]
theorem upd_ne {α : Type} (f : Nat → α) (k j : Nat) (x : α) (h : j ≠ k) : upd f k x j = f j := by simp [upd, h]
/-- A pointer to a new array of zeros. -/
def NewP (kd : IntKind) (t : TypeId) (zs : List Int) (W U : World) (v : Value) : Prop := ∃ g, v = .pointer (some ⟨g, 0, none⟩) ∧ W.heap.size ≤ g ∧ Wn kd U g t zs
theorem NewP.below {kd : IntKind} {t : TypeId} {zs : List Int} {W U U' : World} {v : Value} (h : NewP kd t zs W U v) (hb : Below U.heap.size U U') : NewP kd t zs W U' v := by
  obtain ⟨g, h1, h2, h3⟩ := h
  exact ⟨g, h1, h2, h3.below hb⟩
section
variable {P : Program} {ops : Array Oper} {Q : Exit → Act → World → Prop} {md : Region.Mode} {c : Nat} {S0 S1 : World → Prop}
theorem anyC_calls (W : World) (kd : IntKind) (t : TypeId) (zs : List Int) (nc na : Nat) (lf : Nat → (Nat → Bool) → Array Bool) (af : (Nat → Value) → (Nat → Value) → Act) (R : Nat → Value → Prop) (ci aj : Nat → Nat)
    (hS : ∀ U, Below W.heap.size W U → S0 U ∧ S1 U)
    (hlf : ∀ b, (∀ j, j < na → b j = true) → lf nc b = lf nc (fun _ => true))
    (hready : ∀ k b, k ≤ nc → (k < nc ∨ ∃ j, j < na ∧ b j = false) → Region.ready md ops (lf k b) ≠ [] ∧ ∀ i ∈ Region.ready md ops (lf k b), (k < nc ∧ i = ci k ∧ (lf k b).setIfInBounds i true = lf (k + 1) b) ∨ ∃ j, j < na ∧ b j = false ∧ i = aj j ∧ (lf k b).setIfInBounds i true = lf k (upd b j true))
    (hcall : ∀ k v p U, k < nc → (∀ j, j < k → R j (v j)) → Below W.heap.size W U → ∀ Φ : Act → World → Prop, (∀ x U', R k x → Below U.heap.size U U' → Φ (af (upd v k x) p) U') → wpOp P ops Q (ci k) Φ (af v p) U)
    (halloc : ∀ j v p U, j < na → ∀ Φ : Act → World → Prop, Φ (af v (upd p j (.pointer (some ⟨U.heap.size, 0, none⟩)))) (U.alloc (.cells (ints kd zs) t)) → wpOp P ops Q (aj j) Φ (af v p) U)
    (hend : ∀ v p U, (∀ j, j < nc → R j (v j)) → Below W.heap.size W U → (∀ j, j < na → NewP kd t zs W U (p j)) → (∀ i j, i < na → j < na → i ≠ j → p i ≠ p j) → ∀ n, cnt (lf nc (fun _ => true)) ≤ n → anyC P md ops Q c S0 S1 n (lf nc (fun _ => true)) (af v p) U)
    (v0 p0 : Nat → Value) (U0 : World) (hU0 : Below W.heap.size W U0) (n : Nat) (hn : cnt (lf 0 (fun _ => false)) ≤ n) :
    anyC P md ops Q c S0 S1 n (lf 0 (fun _ => false)) (af v0 p0) U0 := by
  refine anyC_inv (fun l a U => ∃ k b v p, k ≤ nc ∧ l = lf k b ∧ a = af v p ∧ Below W.heap.size W U ∧ (∀ j, j < k → R j (v j)) ∧ (∀ j, j < na → b j = true → NewP kd t zs W U (p j)) ∧ (∀ i j, i < na → j < na → i ≠ j → b i = true → b j = true → p i ≠ p j)) ?_ ?_ n _ _ _ hn ⟨0, fun _ => false, v0, p0, Nat.zero_le _, rfl, rfl, hU0, fun j h => absurd h (Nat.not_lt_zero _), fun j _ h => (by cases h), fun i j _ _ _ h => (by cases h)⟩
  · rintro l a U ⟨k, b, v, p, -, -, -, hb, -⟩
    exact ⟨(hS U hb).1, fun _ => (hS U hb).2⟩
  · rintro l a U ⟨k, b, v, p, hk, rfl, rfl, hb, hr, hp, hd⟩
    by_cases hall : k = nc ∧ ∀ j, j < na → b j = true
    · left
      obtain ⟨rfl, hbt⟩ := hall
      intro m hm
      rw [hlf b hbt] at hm ⊢
      exact hend v p U hr hb (fun j hj => hp j hj (hbt j hj)) (fun i j hi hj hij => hd i j hi hj hij (hbt i hi) (hbt j hj)) m hm
    · right
      have hnot : k < nc ∨ ∃ j, j < na ∧ b j = false := by
        by_cases hkn : k < nc
        · exact Or.inl hkn
        · right
          have hke : k = nc := by omega
          refine Classical.byContradiction fun hno => hall ⟨hke, fun j hj => ?_⟩
          cases hbj : b j with
          | true => rfl
          | false => exact absurd ⟨j, hj, hbj⟩ hno
      obtain ⟨hne, hrd⟩ := hready k b hk hnot
      refine ⟨fun he => absurd he hne, fun i hi => ?_⟩
      rcases hrd i hi with ⟨hkn, hik, hset⟩ | ⟨j, hj, hbj, hij, hset⟩
      · rw [hset, hik]
        refine hcall k v p U hkn hr hb _ (fun x U' hx hb' => ⟨k + 1, b, upd v k x, p, hkn, rfl, rfl, hb.trans (hb'.mono hb.size), fun j hj => ?_, fun j hj h => (hp j hj h).below hb', hd⟩)
        by_cases hjk : j = k
        · subst hjk; rw [upd_same]; exact hx
        · rw [upd_ne _ _ _ _ hjk]; exact hr j (by omega)
      · rw [hset, hij]
        have hba : Below U.heap.size U (U.alloc (.cells (ints kd zs) t)) := (Below.refl _ U).alloc (Nat.le_refl _) _
        refine halloc j v p U hj _ ⟨k, upd b j true, v, _, hk, rfl, rfl, hb.trans (hba.mono hb.size), hr, fun i hi h => ?_, fun i i' hi hi' hne' h h' => ?_⟩
        · by_cases hie : i = j
          · subst hie
            rw [upd_same]
            exact ⟨_, rfl, hb.size, Wn.new kd U t zs _ rfl⟩
          · rw [upd_ne _ _ _ _ hie] at h ⊢
            exact (hp i hi h).below hba
        · by_cases hie : i = j
          · subst hie
            rw [upd_same, upd_ne _ _ _ _ (Ne.symm hne')]
            rw [upd_ne _ _ _ _ (Ne.symm hne')] at h'
            obtain ⟨g, e1, -, e3⟩ := hp i' hi' h'
            rw [e1]
            intro he
            have hge : U.heap.size = g := by cases he; rfl
            have := e3.lt
            omega
          · rw [upd_ne _ _ _ _ hie]
            rw [upd_ne _ _ _ _ hie] at h
            by_cases hie' : i' = j
            · subst hie'
              rw [upd_same]
              obtain ⟨g, e1, -, e3⟩ := hp i hi h
              rw [e1]
              intro he
              have hge : U.heap.size = g := by cases he; rfl
              have := e3.lt
              omega
            · rw [upd_ne _ _ _ _ hie']
              rw [upd_ne _ _ _ _ hie'] at h'
              exact hd i i' hi hi' hne' h h'
end
/-- All rows of so many bits. -/
def allBits : Nat → List (List Bool)
  | 0 => [[]]
  | n + 1 => (allBits n).flatMap fun l => [true :: l, false :: l]
theorem mem_allBits (l : List Bool) : l ∈ allBits l.length := by
  induction l with
  | nil => simp [allBits]
  | cons b l ih =>
    rw [List.length_cons, allBits, List.mem_flatMap]
    exact ⟨l, ih, by cases b <;> simp⟩
def bitsOf (na : Nat) (b : Nat → Bool) : List Bool := (List.range na).map b
theorem bitsOf_len (na : Nat) (b : Nat → Bool) : (bitsOf na b).length = na := by simp [bitsOf]
theorem bitsOf_get (na : Nat) (b : Nat → Bool) (j : Nat) (hj : j < na) : (bitsOf na b).getD j false = b j := by
  simp [bitsOf, List.getD_eq_getElem?_getD, hj]
theorem bitsOf_all (na : Nat) (b : Nat → Bool) (h : ∀ j, j < na → b j = true) : bitsOf na b = bitsOf na (fun _ => true) := by
  unfold bitsOf
  refine List.map_congr_left fun j hj => h j (by simpa using hj)
theorem bitsOf_upd (na : Nat) (b : Nat → Bool) (j : Nat) (hj : j < na) : bitsOf na (upd b j true) = (bitsOf na b).set j true := by
  refine List.ext_getElem (by simp [bitsOf]) fun i h1 h2 => ?_
  simp only [bitsOf, List.getElem_map, List.getElem_range, List.getElem_set, upd]
  by_cases h : i = j
  · subst h; simp
  · rw [if_neg h, if_neg (Ne.symm h)]
/-- Which operations may come up when k calls have come up and these allocations. -/
def okReady (md : Region.Mode) (ops : Array Oper) (nc na : Nat) (L : Nat → List Bool → Array Bool) (ci aj : List Nat) : Bool :=
  (List.range (nc + 1)).all fun k => (allBits na).all fun bs =>
    (!decide (k < nc) && bs.all id) || (Region.ready md ops (L k bs) == (if k < nc then [ci.getD k 0] else []) ++ ((List.range na).filter fun j => !bs.getD j false).map fun j => aj.getD j 0) &&
    (!decide (k < nc) || (L k bs).setIfInBounds (ci.getD k 0) true == L (k + 1) bs) &&
    (List.range na).all fun j => (L k bs).setIfInBounds (aj.getD j 0) true == L k (bs.set j true)
section
variable {P : Program} {ops : Array Oper} {Q : Exit → Act → World → Prop} {md : Region.Mode} {c : Nat} {S0 S1 : World → Prop}
/-- The rule, with a check of what may come up. -/
theorem anyC_run (W : World) (kd : IntKind) (t : TypeId) (zs : List Int) (nc na : Nat) (L : Nat → List Bool → Array Bool) (af : (Nat → Value) → (Nat → Value) → Act) (R : Nat → Value → Prop) (ci aj : List Nat)
    (hok : okReady md ops nc na L ci aj = true)
    (hS : ∀ U, Below W.heap.size W U → S0 U ∧ S1 U)
    (hcall : ∀ k v p U, k < nc → (∀ j, j < k → R j (v j)) → Below W.heap.size W U → ∀ Φ : Act → World → Prop, (∀ x U', R k x → Below U.heap.size U U' → Φ (af (upd v k x) p) U') → wpOp P ops Q (ci.getD k 0) Φ (af v p) U)
    (halloc : ∀ j v p U, j < na → ∀ Φ : Act → World → Prop, Φ (af v (upd p j (.pointer (some ⟨U.heap.size, 0, none⟩)))) (U.alloc (.cells (ints kd zs) t)) → wpOp P ops Q (aj.getD j 0) Φ (af v p) U)
    (hend : ∀ v p U, (∀ j, j < nc → R j (v j)) → Below W.heap.size W U → (∀ j, j < na → NewP kd t zs W U (p j)) → (∀ i j, i < na → j < na → i ≠ j → p i ≠ p j) → ∀ n, cnt (L nc (bitsOf na fun _ => true)) ≤ n → anyC P md ops Q c S0 S1 n (L nc (bitsOf na fun _ => true)) (af v p) U)
    (l0 : Array Bool) (a0 : Act) (v0 p0 : Nat → Value) (hl0 : l0 = L 0 (bitsOf na fun _ => false)) (ha0 : a0 = af v0 p0) (U0 : World) (hU0 : Below W.heap.size W U0) (n : Nat) (hn : cnt l0 ≤ n) :
    anyC P md ops Q c S0 S1 n l0 a0 U0 := by
  subst hl0
  subst ha0
  refine anyC_calls W kd t zs nc na (fun k b => L k (bitsOf na b)) af R (fun k => ci.getD k 0) (fun j => aj.getD j 0) hS (fun b hb => by show L nc (bitsOf na b) = _; rw [bitsOf_all na b hb]) ?_ hcall halloc hend v0 p0 U0 hU0 n hn
  intro k b hk hnot
  have h1 := List.all_eq_true.1 hok k (List.mem_range.2 (by omega))
  have h2 := List.all_eq_true.1 h1 (bitsOf na b) (by have := mem_allBits (bitsOf na b); rwa [bitsOf_len] at this)
  have hno : (!decide (k < nc) && (bitsOf na b).all id) = false := by
    rcases hnot with h | ⟨j, hj, hbj⟩
    · simp [h]
    · rw [Bool.and_eq_false_iff]
      right
      rw [List.all_eq_false]
      exact ⟨b j, List.mem_map.2 ⟨j, List.mem_range.2 hj, rfl⟩, by rw [hbj]; simp⟩
  rw [hno, Bool.false_or] at h2
  simp only [Bool.and_eq_true, beq_iff_eq, Bool.or_eq_true, Bool.not_eq_true', decide_eq_false_iff_not, List.all_eq_true, List.mem_range] at h2
  obtain ⟨⟨hr, hc⟩, ha⟩ := h2
  show Region.ready md ops (L k (bitsOf na b)) ≠ [] ∧ ∀ i ∈ Region.ready md ops (L k (bitsOf na b)), _
  rw [hr]
  constructor
  · intro he
    rcases hnot with h | ⟨j, hj, hbj⟩
    · rw [if_pos h] at he; simp at he
    · have hm : j ∈ (List.range na).filter fun j => !(bitsOf na b).getD j false := by
        rw [List.mem_filter, List.mem_range, bitsOf_get na b j hj, hbj]
        exact ⟨hj, rfl⟩
      have hm2 := List.mem_map_of_mem (f := fun j => aj.getD j 0) hm
      have he2 := (List.append_eq_nil_iff.1 he).2
      rw [he2] at hm2
      cases hm2
  · intro i hi
    rcases List.mem_append.1 hi with h | h
    · left
      by_cases hkn : k < nc
      · rw [if_pos hkn] at h
        obtain rfl : i = ci.getD k 0 := by simpa using h
        exact ⟨hkn, rfl, hc.resolve_left (fun h => h hkn)⟩
      · rw [if_neg hkn] at h; cases h
    · right
      obtain ⟨j, hj, rfl⟩ := List.mem_map.1 h
      rw [List.mem_filter, List.mem_range] at hj
      have hbj : b j = false := by
        have := hj.2
        rw [bitsOf_get na b j hj.1] at this
        simpa using this
      exact ⟨j, hj.1, hbj, rfl, by rw [ha j hj.1, bitsOf_upd na b j hj.1]⟩
end
/-- Parts of two rows one behind the other. -/
theorem part_l (k : IntKind) (A B : List Int) (j : Nat) (v : Value) (h : (ints k A).toList[j]? = some v) : (ints k (A ++ B))[0 + j]? = some v := by
  have hl : j < A.length := by
    have := (List.getElem?_eq_some_iff.1 h).1
    simpa [ints] using this
  simp [ints] at h ⊢
  rw [List.getElem?_append_left (by simpa using hl)]
  simpa using h
theorem part_r (k : IntKind) (A B : List Int) (m j : Nat) (v : Value) (hm : A.length = m) (h : (ints k B).toList[j]? = some v) : (ints k (A ++ B))[m + j]? = some v := by
  simp [ints] at h ⊢
  rw [List.getElem?_append_right (by simp; omega)]
  simp [hm]
  simpa using h
theorem part_all (k : IntKind) (A : List Int) (j : Nat) (v : Value) (h : (ints k A).toList[j]? = some v) : (ints k A)[0 + j]? = some v := by
  rw [Nat.zero_add, ← Array.getElem?_toList]; exact h
theorem patch_l (k : IntKind) (A B R : List Int) (h : A.length = R.length) : (patch (ints k (A ++ B)).toList (ints k R).toList 0).toArray = ints k (R ++ B) := by
  unfold patch ints
  simp [h.symm]
theorem patch_r (k : IntKind) (A B R : List Int) (m : Nat) (hm : A.length = m) (h : B.length = R.length) : (patch (ints k (A ++ B)).toList (ints k R).toList m).toArray = ints k (A ++ R) := by
  unfold patch ints
  subst hm
  simp [h.symm]
theorem patch_all (k : IntKind) (A R : List Int) (h : A.length = R.length) : (patch (ints k A).toList (ints k R).toList 0).toArray = ints k R := by
  unfold patch ints
  simp [h.symm]
end Go.Proofs.Ytilnbmlbahflkaa
