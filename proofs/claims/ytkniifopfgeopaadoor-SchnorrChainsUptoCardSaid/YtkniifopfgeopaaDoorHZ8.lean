/-
  Rows of structures of the call's own, whatever the program: elements of a fixed number of cells, with memory of their own behind them.
  Plain mathematics, no program: hexadecimal digits, the text of bytes, and the bytes of a text.
  A list of choices: an int; ints that lie in a block; growing worlds.
  A statement that draws its order: a condition on the world that holds till one operation, a call, has come up, beside one that holds throughout. What that call waits for may be loaded by the first condition, although stores behind the call end it.
  A statement that draws its order, by an invariant over what has come up: one step for each operation, whatever came before it.
  A statement that draws its order and holds calls, loads of whole arrays and allocations: loads are taken first, the calls and allocations come up in any order; loads and stores of a part of a block.
  What wire.Slice returns, for every slice of bytes, place and length.
  What wire.Equal returns: whether two slices of bytes hold the same numbers.
  What the document's own Compare and Equal return: the lexicographic order of two slices of bytes, and whether they are equal.
  What Change makes of a list of bytes: other bytes, or the same.
  What Mod returns: the remainder that is not below zero.
  What the condition on the package variable says of the table of the hash.
-/
import Derived.Test.YtkniifopfgeopaaDoorHZ4
import Derived.Test.YtkniifopfgeopaaDoorHZ5
import Derived.Test.YtkniifopfgeopaaDoorRows
import Derived.Test.YtkniifopfgeopaaDoorHZ1
import Derived.Test.YtkniifopfgeopaaDoorHZ3
import Derived.Test.YtkniifopfgeopaaDoorHZ0
import Derived.Test.YtkniifopfgeopaaDoorHShaBlock
import Derived.WalkKit
import Derived.Laws.Externs
import Derived.OrdersHeld
import Derived.Deep.RegionHeld
import Derived.Deep.QuietTactic
import Derived.BigQuiet
import Derived.BigRegion
import Derived.Deep.RegionWith
import Derived.ProofKit
import Derived.LaidMore
import Derived.Lib.LaidTab
import Derived.Stop.Joined
namespace Go.Proofs.YtkniifopfgeopaaDoor
open Go.RowKit
set_option linter.unusedVariables false

/-- A kind of elements: the type, the number of cells, the cells of one. -/
structure KindR (α : Type) where
  e : TypeId
  k : Nat
  cs : α → List Value
  len : ∀ x, (cs x).length = k
  one : ∀ x, ∀ u ∈ cs x, u.oneCell' = true
  pos : 0 < k

section
variable {α : Type} (K : KindR α)
def KindR.row (l : List α) : List Value := l.flatMap K.cs
theorem KindR.row_cons (x : α) (l : List α) : K.row (x :: l) = K.cs x ++ K.row l := rfl
theorem KindR.row_append (l r : List α) : K.row (l ++ r) = K.row l ++ K.row r := by simp [KindR.row]
theorem KindR.row_len (l : List α) : (K.row l).length = l.length * K.k := by
  induction l with
  | nil => simp [KindR.row]
  | cons x l ih => rw [K.row_cons, List.length_append, K.len, ih, List.length_cons, Nat.add_mul]; omega
theorem KindR.row_one (l : List α) : ∀ u ∈ K.row l, u.oneCell' = true := by
  intro u hu
  obtain ⟨x, _, h⟩ := List.mem_flatMap.1 hu
  exact K.one x u h
theorem KindR.row_get (l : List α) (j : Nat) (hj : j < l.length) (i : Nat) (u : Value) (hu : (K.cs l[j])[i]? = some u) : (K.row l)[j * K.k + i]? = some u := by
  induction l generalizing j with
  | nil => simp at hj
  | cons x l ih =>
    have hi : i < K.k := by have := (List.getElem?_eq_some_iff.1 hu).1; rw [K.len] at this; exact this
    rw [K.row_cons]
    cases j with
    | zero =>
      rw [Nat.zero_mul, Nat.zero_add, List.getElem?_append_left (by rw [K.len]; exact hi)]
      exact hu
    | succ j =>
      rw [List.getElem?_append_right (by rw [K.len, Nat.add_mul]; omega), K.len, show (j + 1) * K.k + i - K.k = j * K.k + i by rw [Nat.add_mul]; omega]
      exact ih j (by simpa using hj) (by simpa using hu)
theorem KindR.row_set (l : List α) (j : Nat) (hj : j < l.length) (i : Nat) (hi : i < K.k) (u : Value) (y : α) (hy : K.cs y = (K.cs l[j]).set i u) : K.row (l.set j y) = (K.row l).set (j * K.k + i) u := by
  induction l generalizing j with
  | nil => simp at hj
  | cons x l ih =>
    cases j with
    | zero =>
      rw [List.set_cons_zero, K.row_cons, K.row_cons, Nat.zero_mul, Nat.zero_add, List.set_append_left _ _ (by rw [K.len]; exact hi), hy]
      rfl
    | succ j =>
      rw [List.set_cons_succ, K.row_cons, K.row_cons, List.set_append_right _ _ (by rw [K.len, Nat.add_mul]; omega), K.len, show (j + 1) * K.k + i - K.k = j * K.k + i by rw [Nat.add_mul]; omega]
      rw [ih j (by simpa using hj) (by simpa using hy)]
end

/-- The row that is written is of none of these types, or lies below base. -/
def OffT (ts : List TypeId) (w : World) (base : Nat) (row : Option Nat) : Prop := ∀ r, row = some r → r < base ∨ ∀ cur e fz, w.heap[r]? = some (.cells cur e fz) → e ∉ ts
theorem OffT.none (ts : List TypeId) (w : World) (base : Nat) : OffT ts w base none := fun r h => by cases h
theorem OffT.low {ts : List TypeId} {w : World} {base k : Nat} (h : k < base) : OffT ts w base (some k) := fun r hr => by cases hr; exact Or.inl h
theorem OffT.of_type {ts : List TypeId} {w : World} {base r : Nat} {cur : Array Value} {e : TypeId} {fz : Nat × Nat} (h : w.heap[r]? = some (.cells cur e fz)) (he : e ∉ ts) : OffT ts w base (some r) := fun r' hr => by
  cases hr
  exact Or.inr (fun cur' e' fz' h' => by rw [h] at h'; simp at h'; rw [← h'.2.1]; exact he)

/-- The memory behind an element: in blocks of these types. -/
structure NestR (α : Type) where
  ts : List TypeId
  ok : World → Nat → α → Prop
  keep : ∀ {w w' : World} {base : Nat} {row : Option Nat} {x : α}, ok w base x → w.grownBy w' row → OffT ts w base row → ok w' base x
  mono : ∀ {w : World} {base base' : Nat} {x : α}, ok w base x → base' ≤ base → ok w base' x

/-- The call's own row v holds the elements, with what lies behind them. -/
structure RowG {α : Type} (K : KindR α) (N : NestR α) (w : World) (base : Nat) (v : Value) (l : List α) : Prop where
  own : w.ownsRow base K.e K.k v l.length (K.row l)
  ok : ∀ x ∈ l, N.ok w base x

section
variable {α : Type} {K : KindR α} {N : NestR α} {w w' : World} {base : Nat} {v : Value} {l : List α}
theorem RowG.nil (K : KindR α) (N : NestR α) (w : World) (base : Nat) : RowG K N w base (.slice none 0 0) [] := ⟨World.ownsRow_nil w base K.e K.k, fun x hx => by cases hx⟩
theorem RowG.mono {base' : Nat} (h : RowG K N w base v l) (hb : base' ≤ base) : RowG K N w base' v l := by
  refine ⟨⟨h.own.1, ?_⟩, fun x hx => N.mono (h.ok x hx) hb⟩
  rcases h.own.2 with h1 | ⟨g, cap, cur, hv, hg, rest⟩
  · exact Or.inl h1
  · exact Or.inr ⟨g, cap, cur, hv, by omega, rest⟩
theorem RowG.lt (h : RowG K N w base v l) : ∀ k, v.ownBlock = some k → base ≤ k ∧ k < w.heap.size := World.ownsRow.lt h.own
theorem RowG.grown {row : Option Nat} (h : RowG K N w base v l) (hg : w.grownBy w' row) (hne : ∀ r, row = some r → v.ownBlock ≠ some r) (hr : OffT N.ts w base row) : RowG K N w' base v l :=
  ⟨World.ownsRow.kept h.own hg (by
    rcases hv : v.ownBlock with _ | b
    · exact Or.inl rfl
    · refine Or.inr ?_
      intro e
      rcases hrow : row with _ | r
      · rw [hrow] at e; cases e
      · rw [hrow] at e
        cases e
        exact hne _ hrow hv), fun x hx => N.keep (h.ok x hx) hg hr⟩
theorem RowG.low {k : Nat} (h : RowG K N w base v l) (hg : w.grownBy w' (some k)) (hk : k < base) : RowG K N w' base v l :=
  h.grown hg (fun r hr e => by cases hr; have := (h.lt k e).1; omega) (OffT.low hk)
theorem RowG.below (h : RowG K N w base v l) (hb : Below w.heap.size w w') : RowG K N w' base v l :=
  h.grown (row := none) ⟨hb.os, hb.tape, hb.output, hb.size, fun i hi _ => hb.block i hi⟩ (fun r hr => by cases hr) (OffT.none _ _ _)
theorem RowG.alloc (h : RowG K N w base v l) (o : Obj) : RowG K N (w.alloc o) base v l := h.below ((Below.refl _ w).alloc (Nat.le_refl _) o)
/-- Writing the row itself leaves what lies in blocks of other types. -/
theorem RowG.offT {ts : List TypeId} {base' : Nat} (h : RowG K N w base v l) (he : K.e ∉ ts) : OffT ts w base' v.ownBlock := fun r hr => by
  rcases h.own.2 with ⟨rfl, _⟩ | ⟨g, cap, cur, rfl, hg, hh, _⟩
  · simp [Value.ownBlock] at hr
  · simp [Value.ownBlock] at hr
    subst hr
    exact OffT.of_type hh he g rfl
theorem RowG.form (h : RowG K N w base v l) {n : Nat} (hn : l.length = n) : ∃ p c, v = .slice p n c := by
  subst hn
  rcases h.own.2 with ⟨rfl, h0⟩ | ⟨g, cap, cur, rfl, _⟩
  · exact ⟨none, 0, by rw [h0]⟩
  · exact ⟨_, _, rfl⟩
/-- A row that is not empty: where it lies, its cells, and that none is frozen. -/
theorem RowG.at_ (h : RowG K N w base v l) {n : Nat} (hn : l.length = n) (hp : 0 < n) :
    ∃ g c, v = .slice (some ⟨g, 0, none⟩) n c ∧ n ≤ c ∧ c ≤ maxLen ∧ base ≤ g ∧ g < w.heap.size ∧ (∀ j u, (K.row l)[j]? = some u → w.cell? ⟨g, j, none⟩ = some u) ∧ (∀ j, w.frozen? ⟨g, j, none⟩ = false) := by
  subst hn
  have h0 := h.own
  rcases h.own.2 with ⟨rfl, hz⟩ | ⟨g, cap, cur, rfl, hb, hh, hnc, hm, hs, ht⟩
  · omega
  · refine ⟨g, cap, rfl, hnc, hm, hb, (Array.getElem?_eq_some_iff.1 hh).1, fun j u hj => ?_, fun j => World.ownsRow.frozenAt h0 j⟩
    have := World.ownsRow.cells h0 (g := g) rfl j u hj
    rw [WideShapes.add_plain, Nat.zero_add] at this
    exact this
/-- A store into one cell of one element. -/
theorem RowG.set {g n c : Nat} (h : RowG K N w base (.slice (some ⟨g, 0, none⟩) n c) l) (j : Nat) (hj : j < l.length) (i : Nat) (hi : i < K.k) (u : Value) (y : α) (hy : K.cs y = (K.cs l[j]).set i u) (hn : l.length = n) (he : K.e ∉ N.ts)
    (hok : N.ok (w.setCell ⟨g, j * K.k + i, none⟩ u) base y) : RowG K N (w.setCell ⟨g, j * K.k + i, none⟩ u) base (.slice (some ⟨g, 0, none⟩) n c) (l.set j y) := by
  subst hn
  have hg : w.grownBy (w.setCell ⟨g, j * K.k + i, none⟩ u) (some g) := ⟨rfl, rfl, rfl, by simp [World.setCell], fun i hi hne => Below.heap_setCell _ _ _ _ (by simp at hne; exact hne)⟩
  refine ⟨?_, fun x hx => ?_⟩
  · have := (World.ownsRow.stored h.own (j * K.k + i) u).1
    rw [List.length_set, K.row_set l j hj i hi u y hy]
    exact this
  · rcases List.mem_or_eq_of_mem_set hx with hx | rfl
    · exact N.keep (h.ok x hx) hg (by have := h.offT (ts := N.ts) (base' := base) he; simpa [Value.ownBlock] using this)
    · exact hok
end

/-- The source of an append: so many elements lie there. -/
def SrcG {α : Type} (K : KindR α) (w : World) (p : Option Addr) (m : Nat) (r : List α) : Prop := r.length = m ∧ (0 < m → ∃ ad, p = some ad ∧ ∀ j u, (K.row r)[j]? = some u → w.cell? (ad.add j) = some u)
theorem RowG.src {α : Type} {K : KindR α} {N : NestR α} {w : World} {base : Nat} {p : Option Addr} {m c : Nat} {l : List α} (h : RowG K N w base (.slice p m c) l) : SrcG K w p m l := by
  obtain ⟨p', c', e⟩ := h.form rfl
  simp at e
  obtain ⟨rfl, rfl, rfl⟩ := e
  refine ⟨rfl, fun h0 => ?_⟩
  obtain ⟨g, c', hv, _, _, _, _, hc, _⟩ := h.at_ rfl h0
  simp at hv
  obtain ⟨rfl, rfl⟩ := hv
  exact ⟨_, rfl, fun j u hj => by rw [WideShapes.add_plain, Nat.zero_add]; exact hc j u hj⟩
/-- Elements that were laid out in a block that was just made. -/
theorem SrcG.new {α : Type} (K : KindR α) (w : World) (r : List α) (T : TypeId) : SrcG K (w.alloc (.cells (K.row r).toArray T)) (some ⟨w.heap.size, 0, none⟩) r.length r :=
  ⟨rfl, fun _ => ⟨_, rfl, fun j u hj => by
    rw [WideShapes.add_plain, Nat.zero_add, World.cell?_alloc_at _ _ _ _ rfl]
    simpa using hj⟩⟩

/-- What the program knows of a kind's slices. -/
structure KnownR {α : Type} (P : Program) (K : KindR α) (t : TypeId) (bytes : Nat) : Prop where
  under : P.underlying t = some (.slice K.e)
  info : ∃ i z, P.info? K.e = some i ∧ i.zero = some z ∧ i.size = K.k ∧ i.bytes = bytes ∧ z.cells.size = K.k

section
variable {α : Type} {P : Program} {K : KindR α} {N : NestR α} {t : TypeId} {bytes : Nat}
theorem run_append_g (hk : KnownR P K t bytes) (he : K.e ∉ N.ts) (w : World) (base : Nat) (ty : TypeId) (v : Value) (l : List α) (h : RowG K N w base v l) (p : Option Addr) (m c : Nat) (r : List α) (hs : SrcG K w p m r) (hr : ∀ x ∈ r, N.ok w base x)
    (h63 : l.length + m ≤ maxLen) (hbytes : (l.length + m) * bytes ≤ 140737488355328) (hbase : base ≤ w.heap.size) :
    ∃ v' w', (Builtin.append_ #[t, t] ty #[v, .slice p m c]).run P w = .ok v' w' ∧ RowG K N w' base v' (l ++ r) ∧ w.grownBy w' v.ownBlock := by
  obtain ⟨i0, z, hi, hz0, hz1, hz2, hz3⟩ := hk.info
  have ht := hk.under
  have key : ∀ {w' : World}, w.grownBy w' v.ownBlock → ∀ x ∈ l ++ r, N.ok w' base x := fun hg x hx => by
    rcases List.mem_append.1 hx with hx | hx
    · exact N.keep (h.ok x hx) hg (h.offT he)
    · exact N.keep (hr x hx) hg (h.offT he)
  cases p with
  | none =>
    have hm : m = 0 := by
      rcases Nat.eq_zero_or_pos m with h0 | h0
      · exact h0
      · obtain ⟨ad, e, _⟩ := hs.2 h0
        cases e
    subst hm
    obtain rfl : r = [] := List.eq_nil_of_length_eq_zero hs.1
    refine ⟨v, w, ?_, by rw [List.append_nil]; exact h, World.grownBy.refl w _⟩
    rcases h.own.2 with ⟨rfl, hx⟩ | ⟨g, cap, cur, rfl, _, _, hnc, _⟩
    · simp [Builtin.append_, run_underlying ht, sizeOf, typeInfo, hi, Builtin.lenOf, Builtin.firstCells]
    · simp [Builtin.append_, run_underlying ht, sizeOf, typeInfo, hi, Builtin.lenOf, Builtin.firstCells, hnc, storeCells]
  | some a =>
    have hcells : ∀ j u, (K.row r)[j]? = some u → w.cell? (a.add j) = some u := by
      intro j u hj
      rcases Nat.eq_zero_or_pos m with h0 | h0
      · have : r = [] := List.eq_nil_of_length_eq_zero (hs.1.trans h0)
        subst this
        simp [KindR.row] at hj
      · obtain ⟨ad, e, hc⟩ := hs.2 h0
        cases e
        exact hc j u hj
    obtain ⟨v', w', hrun, h2, h3, _⟩ := run_append_own (P := P) w base t ty K.e i0 z K.k bytes ht hi hz0 hz1 hz2 hz3 K.pos v l.length (K.row l) h.own a m c (K.row r) (by rw [K.row_len, hs.1])
      hcells (K.row_one r) h63 hbytes hbase
    refine ⟨v', w', hrun, ⟨?_, key h3⟩, h3⟩
    rw [List.length_append, K.row_append, hs.1]
    exact h2

theorem wp_append_g (hk : KnownR P K t bytes) (he : K.e ∉ N.ts) (w : World) {o : Oper} {a : Act} {C : Act → World → Prop} {Q : Exit → Act → World → Prop} (s x : Operand)
    (ho : o.op = .call { callee := .builtin .append, args := #[s, x], argTypes := #[t, t] })
    (base : Nat) (v : Value) (l : List α) (hs : a.eval s = v) (hv : RowG K N w base v l)
    (p : Option Addr) (m c : Nat) (r : List α) (hx : a.eval x = .slice p m c) (hsrc : SrcG K w p m r) (hr : ∀ x ∈ r, N.ok w base x) (h63 : l.length + m ≤ maxLen) (hbytes : (l.length + m) * bytes ≤ 140737488355328) (hbase : base ≤ w.heap.size)
    (h : ∀ v' w', RowG K N w' base v' (l ++ r) → w.grownBy w' v.ownBlock → C (a.put o.dst v') w') : o.wp P a w C Q := by
  obtain ⟨v', w', hrun, h2, h3⟩ := run_append_g hk he w base o.type v l hv p m c r hsrc hr h63 hbytes hbase
  unfold Oper.wp execOp
  simp only [ho, resolve, invoke, builtin, Sem.run_bind, Sem.run_pure, Result.andThen_ok, List.map_toArray, List.map_cons, List.map_nil, hs, hx, hrun]
  exact h v' w' h2 h3
/-- append(l, r...) as a law of the walk; the operation may stand behind a guard that says yes. -/
theorem wpList_append_g (hk : KnownR P K t bytes) (he : K.e ∉ N.ts) (w : World) {ops : Array Oper} {rest : List Oper} {o : Oper} {a : Act} {Q : Exit → Act → World → Prop} (hw : Region.wanted o (yielded ops a.tmps) = true) (s x : Operand)
    (ho : o.op = .call { callee := .builtin .append, args := #[s, x], argTypes := #[t, t] })
    (base : Nat) (v : Value) (l : List α) (hs : a.eval s = v) (hv : RowG K N w base v l)
    (p : Option Addr) (m c : Nat) (r : List α) (hx : a.eval x = .slice p m c) (hsrc : SrcG K w p m r) (hr : ∀ x ∈ r, N.ok w base x) (h63 : l.length + m ≤ maxLen) (hbytes : (l.length + m) * bytes ≤ 140737488355328) (hbase : base ≤ w.heap.size)
    (h : ∀ v' w', RowG K N w' base v' (l ++ r) → w.grownBy w' v.ownBlock → wpList P ops Q rest (a.put o.dst v') w') : wpList P ops Q (o :: rest) a w := by
  refine wpList_step fun C hC => ?_
  rw [if_pos hw]
  exact wp_append_g hk he w s x ho base v l hs hv p m c r hx hsrc hr h63 hbytes hbase fun v' w' h2 h3 => hC _ _ (h v' w' h2 h3)
end

/-- What can be read behind an element. -/
structure ReadN (α : Type) where
  ok : World → α → Prop
  keep : ∀ {w w' : World} {x : α}, ok w x → (∀ a v, w.cell? a = some v → w'.cell? a = some v) → ok w' x
/-- The slice reads as the elements, with what lies behind them. -/
structure RdG {α : Type} (K : KindR α) (D : ReadN α) (w : World) (p : Option Addr) (n c : Nat) (l : List α) : Prop where
  len : l.length = n
  cap : n ≤ c
  big : c ≤ maxLen
  mem : 0 < n → ∃ g, p = some ⟨g, 0, none⟩ ∧ ∀ j u, (K.row l)[j]? = some u → w.cell? ⟨g, j, none⟩ = some u
  ok : ∀ x ∈ l, D.ok w x
section
variable {α : Type} {K : KindR α} {D : ReadN α} {w w' : World} {p : Option Addr} {n c : Nat} {l : List α}
theorem RdG.keep (h : RdG K D w p n c l) (hk : ∀ a v, w.cell? a = some v → w'.cell? a = some v) : RdG K D w' p n c l :=
  ⟨h.len, h.cap, h.big, fun h0 => by
    obtain ⟨g, e, hc⟩ := h.mem h0
    exact ⟨g, e, fun j u hj => hk _ _ (hc j u hj)⟩, fun x hx => D.keep (h.ok x hx) hk⟩
theorem RdG.below (h : RdG K D w p n c l) (hb : Below w.heap.size w w') : RdG K D w' p n c l := h.keep (cell_below hb)
theorem RdG.le (h : RdG K D w p n c l) : n ≤ 9223372036854775807 := by
  have h1 := h.cap
  have h2 := h.big
  unfold maxLen at h2
  omega
theorem RdG.cell (h : RdG K D w p n c l) (j : Nat) (hj : j < l.length) : ∃ g, p = some ⟨g, 0, none⟩ ∧ (∀ i u, (K.cs l[j])[i]? = some u → w.cell? ⟨g, j * K.k + i, none⟩ = some u) ∧ D.ok w l[j] := by
  obtain ⟨g, e, hc⟩ := h.mem (by have := h.len; omega)
  exact ⟨g, e, fun i u hi => hc _ _ (K.row_get l j hj i u hi), h.ok _ (List.getElem_mem hj)⟩
theorem RowG.rd {N : NestR α} {base : Nat} {v : Value} (h : RowG K N w base v l) {n : Nat} (hn : l.length = n) (hd : ∀ x, N.ok w base x → D.ok w x) : ∃ p c, v = .slice p n c ∧ RdG K D w p n c l := by
  subst hn
  have hok : ∀ x ∈ l, D.ok w x := fun x hx => hd x (h.ok x hx)
  rcases h.own.2 with ⟨rfl, h0⟩ | ⟨g, cap, cur, rfl, hg, hh, hnc, hm, hs, ht⟩
  · exact ⟨none, 0, by rw [h0], rfl, by omega, by unfold maxLen; omega, fun h => by omega, hok⟩
  · refine ⟨_, _, rfl, rfl, hnc, hm, fun h0 => ⟨g, rfl, fun j u hj => ?_⟩, hok⟩
    have := World.ownsRow.cells h.own (g := g) rfl j u hj
    rw [WideShapes.add_plain, Nat.zero_add] at this
    exact this
/-- Elements that were laid out in a block that was just made. -/
theorem RdG.new (K : KindR α) (D : ReadN α) (w : World) (l : List α) (T : TypeId) (hl : l.length ≤ maxLen) (hd : ∀ x ∈ l, D.ok w x) : RdG K D (w.alloc (.cells (K.row l).toArray T)) (some ⟨w.heap.size, 0, none⟩) l.length l.length l :=
  ⟨rfl, Nat.le_refl _, hl, fun _ => ⟨_, rfl, fun j u hj => by
    rw [World.cell?_alloc_at _ _ _ _ rfl]
    simpa using hj⟩, fun x hx => D.keep (hd x hx) (cell_below ((Below.refl _ w).alloc (Nat.le_refl _) _))⟩
theorem RdG.src (h : RdG K D w p n c l) : SrcG K w p n l :=
  ⟨h.len, fun h0 => by
    obtain ⟨g, e, hc⟩ := h.mem h0
    exact ⟨_, e, fun j u hj => by rw [WideShapes.add_plain, Nat.zero_add]; exact hc j u hj⟩⟩
/-- The first elements. -/
theorem RdG.front (h : RdG K D w p n c l) (j : Nat) (hj : j ≤ n) : RdG K D w p j c (l.take j) := by
  have hl := h.len
  refine ⟨by simp; omega, by have := h.cap; omega, h.big, fun h0 => ?_, fun x hx => h.ok x (List.mem_of_mem_take hx)⟩
  obtain ⟨g, e, hc⟩ := h.mem (by omega)
  refine ⟨g, e, fun i u hi => hc i u ?_⟩
  have h2 : K.row l = K.row (l.take j) ++ K.row (l.drop j) := by rw [← K.row_append, List.take_append_drop]
  rw [h2, List.getElem?_append_left (List.getElem?_eq_some_iff.1 hi).1]
  exact hi
end
end Go.Proofs.YtkniifopfgeopaaDoor

namespace Go.Proofs.YtkniifopfgeopaaDoor

/-- The value of a hexadecimal digit, -1 for another byte. -/
def dg (c : Int) : Int := if 48 ≤ c ∧ c ≤ 57 then c - 48 else if 97 ≤ c ∧ c ≤ 102 then c - 87 else if 65 ≤ c ∧ c ≤ 70 then c - 55 else -1
/-- The digit of a value below 16. -/
def hd (n : Int) : Int := if n < 10 then 48 + n else 87 + n
/-- The text of bytes. -/
def hx : List Int → List Int
  | [] => []
  | x :: l => hd (x / 16) :: hd (x % 16) :: hx l
/-- The bytes of a text of pairs, if all are digits. -/
def unh : List Int → Option (List Int)
  | a :: b :: l => if dg a < 0 ∨ dg b < 0 then none else (unh l).map ((dg a * 16 + dg b) :: ·)
  | _ => some []
/-- The letters of a string as numbers. -/
def letters (s : ByteArray) : List Int := s.data.toList.map fun c => (c.toNat : Int)
theorem letters_len (s : ByteArray) : (letters s).length = s.size := by
  rw [letters, List.length_map, Array.length_toList]
  rfl
theorem letters_rng (s : ByteArray) : ∀ x ∈ letters s, 0 ≤ x ∧ x ≤ 255 := by
  intro x hx
  obtain ⟨c, _, rfl⟩ := List.mem_map.1 hx
  have := c.toNat_lt
  omega
theorem letters_at (s : ByteArray) (j : Nat) (hj : j < s.size) : (letters s).getD j 0 = (s[j].toNat : Int) := by
  have h1 : j < s.data.toList.length := by
    rw [Array.length_toList]
    exact hj
  simp [letters, List.getD_eq_getElem?_getD, List.getElem?_map, List.getElem?_eq_getElem h1]
  rfl
theorem letters_nums (xs : List Int) (h : ∀ x ∈ xs, 0 ≤ x ∧ x ≤ 255) : letters (strOfNums xs) = xs := by
  unfold letters
  rw [strOfNums_data, List.map_map]
  conv => rhs; rw [← List.map_id xs]
  apply List.map_congr_left
  intro x hx
  have := h x hx
  simp only [Function.comp, UInt8.toNat_ofNat', id]
  omega

end Go.Proofs.YtkniifopfgeopaaDoor

namespace Go.Proofs.YtkniifopfgeopaaDoor
open Go.RowKit
set_option linter.unusedVariables false

theorem grown_set_new {a b : World} {row : Option Nat} (h : a.grownBy b row) (g j : Nat) (v : Value) (hg : a.heap.size ≤ g) : a.grownBy (b.setCell ⟨g, j, none⟩ v) row :=
  ⟨h.os, h.tape, h.output, by simp [World.setCell]; exact h.size, fun i hi hne => (Below.heap_setCell _ _ _ _ (by simp; omega)).trans (h.block i hi hne)⟩
theorem grown_alloc_new {a b : World} {row : Option Nat} (h : a.grownBy b row) (o : Obj) : a.grownBy (b.alloc o) row := grown_trans h (World.grownBy_alloc b o row)

theorem grown_own {a b c : World} {row row' : Option Nat} (h : a.grownBy b row) (hg : b.grownBy c row') (hr : ∀ j, row' = some j → a.heap.size ≤ j) : a.grownBy c row :=
  ⟨hg.os.trans h.os, hg.tape.trans h.tape, hg.output.trans h.output, Nat.le_trans h.size hg.size, fun i hi hne => (hg.block i (Nat.lt_of_lt_of_le hi h.size) (fun e => by have := hr i e.symm; omega)).trans (h.block i hi hne)⟩

theorem ints_at (w : World) (l : List Int) (T : TypeId) (j : Nat) (hj : j < l.length) : (w.alloc (.cells (l.map (Value.int .i64)).toArray T)).cell? ⟨w.heap.size, j, none⟩ = some (.int .i64 (l.getD j 0)) := by
  rw [World.cell?_alloc_at _ _ _ _ rfl]
  simp [List.getD_eq_getElem?_getD, List.getElem?_eq_getElem hj]

set_option maxHeartbeats 400000 in
theorem int_any (W w : World) (k : Nat) (h : Cod W w k) :
    Calls Tryd.prog 32 #[.pointer (some ⟨k, 0, none⟩)] w fun e w' => ∃ r : Int, e = .returned (.int .i64 r) ∧ -9223372036854775808 ≤ r ∧ r ≤ 9223372036854775807 ∧ Cod W w' k ∧ w.grownBy w' (some k) := by
  have hk := h.lt
  have H := hidden h
  have HA := hidden (h.alloc (.cells ((([9223372036854775807, -9223372036854775808, 65535, 65536, 255, 256, -1, -2, 0, 4294967296, 16384, 37] : List Int).map (Value.int .i64)).toArray) 3))
  clear h
  go_enter Tryd.func32, Tryd.ntmps32
  go_wp2_with (go_at_call 28; refine (next_any W _ k HA.out _ ?_).mono ?_; omega)
  rintro e w1 ⟨r, rfl, r0, r1, hc, hg⟩
  have HC := hidden hc
  have HL := hidden (fun (j : Nat) (hj : j < 12) => hg.cell (ints_at w [9223372036854775807, -9223372036854775808, 65535, 65536, 255, 256, -1, -2, 0, 4294967296, 16384, 37] 3 j hj) (by simp; omega))
  have HB := hidden (show ∀ z ∈ ([9223372036854775807, -9223372036854775808, 65535, 65536, 255, 256, -1, -2, 0, 4294967296, 16384, 37] : List Int), -9223372036854775808 ≤ z ∧ z ≤ 9223372036854775807 by decide)
  have HG := hidden (grown_trans (World.grownBy_alloc w _ _) hg)
  clear hc hg HA
  by_cases h3 : r = 3
  · subst h3
    go_wp2_with (go_at_call 28; refine (next_any W _ k HC.out _ ?_).mono ?_; omega)
    rintro e w2 ⟨r, rfl, r0, r1, hc, hg⟩
    obtain ⟨j, rfl⟩ := Int.eq_ofNat_of_zero_le r0
    have hcell := hg.cell (HL.out j (by omega)) (by simp; omega)
    have hbd := HB.out _ (List.getElem_mem (n := j) (by simp; omega))
    rw [show ([9223372036854775807, -9223372036854775808, 65535, 65536, 255, 256, -1, -2, 0, 4294967296, 16384, 37] : List Int)[j]'(by simp; omega) = List.getD [9223372036854775807, -9223372036854775808, 65535, 65536, 255, 256, -1, -2, 0, 4294967296, 16384, 37] j 0 by rw [List.getD_eq_getElem?_getD, List.getElem?_eq_getElem (by simp; omega)]; rfl] at hbd
    generalize List.getD [9223372036854775807, -9223372036854775808, 65535, 65536, 255, 256, -1, -2, 0, 4294967296, 16384, 37] j (0 : Int) = z at hcell hbd
    have HC2 := hidden hc
    have HG2 := hidden (grown_trans HG.out hg)
    clear HL HB hc hg
    go_wp2
    go_ret
    exact ⟨z, rfl, hbd.1, hbd.2, HC2.out, HG2.out⟩
  · clear HL HB
    have e3 : (r == 3) = false := by simpa using h3
    go_wp2_with (go_at_call 28; refine (next_any W _ k HC.out _ ?_).mono ?_; omega)
    rintro e w2 ⟨r, rfl, r0, r1, hc, hg⟩
    have HC2 := hidden hc
    have HG2 := hidden (grown_trans HG.out hg)
    clear hc hg
    go_wp2
    go_ret
    exact ⟨r - 3, rfl, by omega, by omega, HC2.out, HG2.out⟩
end Go.Proofs.YtkniifopfgeopaaDoor

namespace Go.Proofs.YtkniifopfgeopaaDoor
open Go
set_option linter.unusedVariables false

section
variable {P : Program} {ops : Array Oper} {Q : Exit → Act → World → Prop} {md : Region.Mode} {c : Nat} {S0 S1 : World → Prop}
/-- Whatever order is picked: behind each operation S0 holds, and S1 till the operation c has come up. -/
def anyC (P : Program) (md : Region.Mode) (ops : Array Oper) (Q : Exit → Act → World → Prop) (c : Nat) (S0 S1 : World → Prop) : Nat → Array Bool → Act → World → Prop
  | 0, l, a, w => Region.ready md ops l = [] ∧ Q .normal a w
  | n + 1, l, a, w => (Region.ready md ops l = [] → Q .normal a w) ∧
      ∀ i ∈ Region.ready md ops l, wpOp P ops Q i (fun a' w' => (S0 w' ∧ ((l.setIfInBounds i true).getD c true = false → S1 w')) ∧ anyC P md ops Q c S0 S1 n (l.setIfInBounds i true) a' w') a w
theorem any_of_C : ∀ (n : Nat) (l : Array Bool) (a : Act) (w : World), anyC P md ops Q c S0 S1 n l a w → wpAny P md ops Q n l a w
  | 0, _, _, _, h => h
  | n + 1, _, _, _, h => ⟨h.1, fun i hi => wpOp_mono (fun a' w' k => any_of_C n _ a' w' k.2) (h.2 i hi)⟩
/-- The first condition, or the second one as well, where c waits for i. -/
theorem anyC_first (B : Bool) {i : Nat} {oi oc : Oper} {v : Value} (hi : ops[i]? = some oi) (hsel : ∀ (j : Nat) (o : Oper) cs b, ops[j]? = some o → o.op ≠ .select cs b)
    (hQ : ∀ ch a w, Q (.panic ch) (a.put oi.dst v) w → Q (.panic ch) a w) (hic : i ≠ c) (hoc : ops[c]? = some oc) (hB : B = true → ∃ e ∈ oc.after, Region.binds md e = true ∧ e.on = i) :
    ∀ (n : Nat) (l : Array Bool) (a : Act) (w : World),
      (∀ j oj, ops[j]? = some oj → j ≠ i → l.getD j true = false → (∀ e ∈ oj.after, Region.binds md e = true → e.on ≠ i) → oi.apart ops oj = true) →
      i ∈ Region.ready md ops l → (B = true → l.getD c true = false) → YieldsIf P ops (fun w => S0 w ∧ (B = true → S1 w)) oi v a → S0 w → (l.getD c true = false → S1 w) →
      anyC P md ops Q c S0 S1 n (l.setIfInBounds i true) (a.put oi.dst v) w → anyC P md ops Q c S0 S1 (n + 1) l a w := by
  intro n
  induction n with
  | zero =>
    intro l a w _ hr hl hy h0 h1 H
    refine ⟨fun h => (by rw [h] at hr; cases hr), fun j hj => ?_⟩
    by_cases hji : j = i
    · subst hji
      exact hy.wpOp hi ⟨h0, fun hb => h1 (hl hb)⟩ ⟨⟨h0, fun hc => h1 (by rw [getD_set_ne true hic] at hc; exact hc)⟩, H⟩
    · have := ready_mono hj hji
      rw [H.1] at this
      cases this
  | succ n ih =>
    intro l a w hfree hr hl hy h0 h1 H
    refine ⟨fun h => (by rw [h] at hr; cases hr), fun j hj => ?_⟩
    by_cases hji : j = i
    · subst hji
      exact hy.wpOp hi ⟨h0, fun hb => h1 (hl hb)⟩ ⟨⟨h0, fun hc => h1 (by rw [getD_set_ne true hic] at hc; exact hc)⟩, H⟩
    · have k1 := H.2 j (ready_mono hj hji)
      obtain ⟨hjun, oj, hoj, hall⟩ := mem_ready.1 hj
      have hnot : ∀ e ∈ oj.after, Region.binds md e = true → e.on ≠ i := fun e he hb heq => by
        have g1 := hall e he hb
        have g0 := (mem_ready.1 hr).1
        rw [heq] at g1
        rcases Nat.lt_or_ge i l.size with h' | h'
        · simp [h'] at g0 g1
          rw [g0] at g1
          cases g1
        · simp [Array.getElem?_eq_none h'] at g1
      have k2 := wpOp_putIf hoj (hfree j oj hoj hji hjun hnot) (fun cs b => hsel i oi cs b hi) (fun cs b => hsel j oj cs b hoj) hQ hy k1
      have hfree' : ∀ k ok, ops[k]? = some ok → k ≠ i → (l.setIfInBounds j true).getD k true = false → (∀ e ∈ ok.after, Region.binds md e = true → e.on ≠ i) → oi.apart ops ok = true := fun k ok hk hki hun hno => by
        refine hfree k ok hk hki ?_ hno
        by_cases hjk : j = k
        · subst hjk; exact hjun
        · rw [getD_set_ne true hjk] at hun; exact hun
      have hjc : B = true → j ≠ c := fun hb e => by
        subst e
        obtain ⟨e, he, hbe, hon⟩ := hB hb
        rw [hoc] at hoj
        cases hoj
        exact hnot e he hbe hon
      have hlc : B = true → (l.setIfInBounds j true).getD c true = false := fun hb => by rw [getD_set_ne true (hjc hb)]; exact hl hb
      have hcc : ∀ l' : Array Bool, ((l'.setIfInBounds i true).setIfInBounds j true).getD c true = (l'.setIfInBounds j true).getD c true := fun l' => by
        rw [Array.setIfInBounds_comm _ _ (Ne.symm hji), getD_set_ne true hic]
      refine wpOp_mono (fun a' w' k3 => ?_) k2
      obtain ⟨hy', ⟨g0, g1⟩, hrest⟩ := k3
      rw [hcc] at g1
      refine ⟨⟨g0, g1⟩, ih (l.setIfInBounds j true) a' w' hfree' (ready_mono hr (Ne.symm hji)) hlc ?_ g0 g1 ?_⟩
      · exact hy'
      · rw [Array.setIfInBounds_comm _ _ hji]
        exact hrest
/-- An operation that yields its value wherever S0 holds. -/
theorem anyC_take {i : Nat} {oi oc : Oper} {v : Value} {n : Nat} {l : Array Bool} {a : Act} {w : World} (hi : ops[i]? = some oi) (hoc : ops[c]? = some oc) (hic : i ≠ c)
    (hs : Region.noSelect ops = true) (hf : Region.free md ops l i = true) (hr : (Region.ready md ops l).contains i = true)
    (hQ : ∀ ch a w, Q (.panic ch) (a.put oi.dst v) w → Q (.panic ch) a w) (hy : YieldsIf P ops S0 oi v a) (h0 : S0 w) (h1 : l.getD c true = false → S1 w)
    (h : anyC P md ops Q c S0 S1 n (l.setIfInBounds i true) (a.put oi.dst v) w) : anyC P md ops Q c S0 S1 (n + 1) l a w :=
  anyC_first false hi (Region.noSelect_spec hs) hQ hic hoc (fun h => by cases h) n l a w (Region.free_spec hi hf) (by simpa using hr) (fun h => by cases h)
    (hy.imp (fun ⟨a, b⟩ => ⟨a, fun w k => b w k.1⟩) id) h0 h1 h
/-- An operation that c waits for, and that yields its value wherever both hold. -/
theorem anyC_take1 {i : Nat} {oi oc : Oper} {v : Value} {n : Nat} {l : Array Bool} {a : Act} {w : World} (hi : ops[i]? = some oi) (hoc : ops[c]? = some oc) (hic : i ≠ c)
    (hw : (oc.after.any fun e => Region.binds md e && e.on == i) = true) (hl : l.getD c true = false)
    (hs : Region.noSelect ops = true) (hf : Region.free md ops l i = true) (hr : (Region.ready md ops l).contains i = true)
    (hQ : ∀ ch a w, Q (.panic ch) (a.put oi.dst v) w → Q (.panic ch) a w) (hy : YieldsIf P ops (fun w => S0 w ∧ S1 w) oi v a) (h0 : S0 w) (h1 : S1 w)
    (h : anyC P md ops Q c S0 S1 n (l.setIfInBounds i true) (a.put oi.dst v) w) : anyC P md ops Q c S0 S1 (n + 1) l a w :=
  anyC_first true hi (Region.noSelect_spec hs) hQ hic hoc (fun _ => by
      obtain ⟨j, hj, he⟩ := Array.any_eq_true.1 hw
      simp only [Bool.and_eq_true, beq_iff_eq] at he
      exact ⟨_, Array.getElem_mem hj, he.1, he.2⟩) n l a w (Region.free_spec hi hf) (by simpa using hr) (fun _ => hl)
    (hy.imp (fun ⟨a, b⟩ => ⟨a, fun w k => b w ⟨k.1, k.2 rfl⟩⟩) id) h0 (fun _ => h1) h
/-- The one operation that may come up. -/
theorem anyC_one {i : Nat} {o : Oper} {n : Nat} {l : Array Bool} {a : Act} {w : World} (hr : Region.ready md ops l = [i]) (ho : ops[i]? = some o)
    (h : ∀ K' : Act → World → Prop, Shut (∀ a w, S0 w → ((l.setIfInBounds i true).getD c true = false → S1 w) → anyC P md ops Q c S0 S1 n (l.setIfInBounds i true) a w → K' a w) →
      if Region.wanted o (yielded ops a.tmps) = true then Oper.wp P o a w K' Q else K' (a.put o.dst undef) w) : anyC P md ops Q c S0 S1 (n + 1) l a w :=
  ⟨fun h0 => (by rw [hr] at h0; cases h0), fun j hj => (by
    rw [hr] at hj
    have e : j = i := by simpa using hj
    subst e
    exact wpOp_step ho fun K' hK => h K' fun a w h0 h1 k => hK a w ⟨⟨h0, h1⟩, k⟩)⟩
theorem anyC_done {l : Array Bool} {a : Act} {w : World} (hr : Region.ready md ops l = []) (h : Q .normal a w) : ∀ n, anyC P md ops Q c S0 S1 n l a w
  | 0 => ⟨hr, h⟩
  | _ + 1 => ⟨fun _ => h, by rw [hr]; simp⟩
/-- The beginning. -/
theorem region_C {id : Nat} {a : Act} {w : World} (c : Nat) (S0 S1 : World → Prop) (hm : P.follows .mixedOrders = true) (h0 : S0 w.drew) (h1 : S1 w.drew)
    (h : S0 w.drew → S1 w.drew → anyC P .any ops Q c S0 S1 ops.size (Array.replicate ops.size false) a w.drew) : (Code.region id ops true).wp P Q a w :=
  wp_region_any hm (any_of_C _ _ _ _ (h h0 h1))
end
end Go.Proofs.YtkniifopfgeopaaDoor

namespace Go.Proofs.YtkniifopfgeopaaDoor
open Go
set_option linter.unusedVariables false

section
variable {P : Program} {ops : Array Oper} {Q : Exit → Act → World → Prop} {md : Region.Mode}
/-- How many have not come up. -/
def cnt (l : Array Bool) : Nat := l.toList.count false
theorem cnt_zero {l : Array Bool} (h : cnt l = 0) (j : Nat) : l.getD j true = true := by
  unfold cnt at h
  rw [List.count_eq_zero] at h
  rw [Array.getD_eq_getD_getElem?]
  rcases Nat.lt_or_ge j l.size with hj | hj
  · rw [Array.getElem?_eq_getElem hj]
    have : l[j] ∈ l.toList := by rw [← Array.getElem_toList]; exact List.getElem_mem (by simpa using hj)
    cases hb : l[j] with
    | true => simp
    | false => rw [hb] at this; exact absurd this h
  · rw [Array.getElem?_eq_none hj]; rfl
theorem count_set (l : List Bool) (i : Nat) (h : l[i]? = some false) : (l.set i true).count false + 1 = l.count false := by
  induction l generalizing i with
  | nil => simp at h
  | cons x l ih =>
    cases i with
    | zero => simp at h; subst h; simp
    | succ i =>
      have := ih i (by simpa using h)
      simp only [List.set_cons_succ, List.count_cons]
      omega
theorem cnt_set {l : Array Bool} {i : Nat} (h : l.getD i true = false) : cnt (l.setIfInBounds i true) + 1 = cnt l := by
  have h1 : l.toList[i]? = some false := by
    rw [Array.getD_eq_getD_getElem?] at h
    rw [Array.getElem?_toList]
    cases e : l[i]? with
    | none => rw [e] at h; simp at h
    | some x => rw [e] at h; simp at h; rw [h]
  unfold cnt
  rw [Array.toList_setIfInBounds]
  exact count_set _ _ h1
/-- An operation waits for earlier ones alone. -/
def depsBelow (ops : Array Oper) : Bool := (List.range ops.size).all fun i => match ops[i]? with | some o => o.after.all (fun e => decide (e.on < i)) | none => true
theorem all_true (hd : depsBelow ops = true) {l : Array Bool} (hs : l.size = ops.size) (hr : Region.ready md ops l = []) : ∀ j, l.getD j true = true := by
  intro j
  induction j using Nat.strongRecOn with
  | ind j ih =>
    cases hb : l.getD j true with
    | true => rfl
    | false =>
      exfalso
      have hj : j < l.size := by
        rcases Nat.lt_or_ge j l.size with h | h
        · exact h
        · rw [Array.getD_eq_getD_getElem?, Array.getElem?_eq_none h] at hb; cases hb
      have hj' : j < ops.size := by omega
      have hm : j ∈ Region.ready md ops l := by
        refine mem_ready.2 ⟨hb, ops[j], Array.getElem?_eq_getElem hj', fun e he _ => ?_⟩
        unfold depsBelow at hd
        have h1 := List.all_eq_true.1 hd j (List.mem_range.2 hj')
        rw [Array.getElem?_eq_getElem hj'] at h1
        simp only at h1
        obtain ⟨k, hk, hke⟩ := Array.getElem_of_mem he
        have h2 := Array.all_eq_true.1 h1 k hk
        rw [hke] at h2
        have h3 : e.on < j := of_decide_eq_true h2
        have h4 := ih e.on h3
        rw [Array.getD_eq_getD_getElem?, Array.getElem?_eq_getElem (by omega)] at h4 ⊢
        exact h4
      rw [hr] at hm
      cases hm
/-- What an operation that may come up has waited for. -/
theorem ready_dep {l : Array Bool} {i : Nat} {o : Oper} (hi : i ∈ Region.ready md ops l) (ho : ops[i]? = some o) (k : Nat) (h : (o.after.any fun e => Region.binds md e && e.on == k) = true) : l.getD k false = true := by
  obtain ⟨_, o', ho', hd⟩ := mem_ready.1 hi
  rw [ho] at ho'
  cases ho'
  obtain ⟨j, hj, he⟩ := Array.any_eq_true.1 h
  simp only [Bool.and_eq_true, beq_iff_eq] at he
  have := hd _ (Array.getElem_mem hj) he.1
  rwa [he.2] at this
/-- Which operations may come up. -/
theorem ready_lt {l : Array Bool} {i : Nat} (h : i ∈ Region.ready md ops l) : i < ops.size := by
  obtain ⟨_, o, ho, _⟩ := mem_ready.1 h
  exact (Array.getElem?_eq_some_iff.1 ho).1
end
end Go.Proofs.YtkniifopfgeopaaDoor

namespace Go.Proofs.YtkniifopfgeopaaDoor
open Go Go.RowKit
set_option linter.unusedVariables false

section
variable {P : Program} {o : Oper} {a : Act} {w : World}
/-- A part of a row is written. -/
def patch (cur vs : List Value) (k : Nat) : List Value := cur.take k ++ vs ++ cur.drop (k + vs.length)
theorem patch_step (cur rest : List Value) (v : Value) (m : Nat) (h : m < cur.length) : patch (cur.set m v) rest (m + 1) = patch cur (v :: rest) m := by
  have h1 : (cur.set m v).take (m + 1) = cur.take m ++ [v] := by
    rw [List.take_succ_eq_append_getElem (by simpa using h), List.getElem_set_self, List.take_set_of_le (Nat.le_refl m)]
  have h2 : (cur.set m v).drop (m + 1 + rest.length) = cur.drop (m + (v :: rest).length) := by
    rw [List.drop_set_of_lt (by omega), List.length_cons]
    congr 1
    omega
  unfold patch
  rw [h1, h2]
  simp
theorem run_storeCells_at (g k : Nat) (t : TypeId) : ∀ (vs : List Value) (i : Nat) (cur : Array Value) (w : World), w.heap[g]? = some (.cells cur t (0, 0)) → k + i + vs.length ≤ cur.size → (∀ v ∈ vs, v.oneCell' = true) →
    (storeCells ⟨g, k, none⟩ vs i).run P w = .ok () (w.setRow g (patch cur.toList vs (k + i)).toArray)
  | [], i, cur, w, hg, hl, _ => by
    have e : patch cur.toList [] (k + i) = cur.toList := by simp [patch]
    have hv : w.heap[g]? = some (.cells cur t (0, 0)) := hg
    have hlt : g < w.heap.size := (Array.getElem?_eq_some_iff.1 hg).1
    have hv : w.heap[g] = .cells cur t (0, 0) := (Array.getElem?_eq_some_iff.1 hg).2
    simp only [storeCells, e, Array.toArray_toList]
    show Result.ok () w = _
    congr 1
    unfold World.setRow
    cases w with
    | mk heap tape drawn os output =>
      congr 1
      apply Array.ext
      · simp
      · intro k h1 h2
        simp only [Array.getElem_modify]
        split
        · rename_i hk; subst hk; simp at hv; simp [hv]
        · rfl
  | v :: rest, i, cur, w, hg, hl, h1 => by
    have hi : k + i < cur.size := by simp at hl; omega
    have hadd : (⟨g, k, none⟩ : Addr).add i = ⟨g, k + i, none⟩ := by unfold Addr.add; split <;> simp_all
    have hcell : w.cell? ⟨g, k + i, none⟩ = some cur[k + i] := by simp [World.cell?, hg, hi]
    have hfro : w.frozen? ⟨g, k + i, none⟩ = false := by simp [World.frozen?, hg]
    have hst : (store ((⟨g, k, none⟩ : Addr).add i) v).run P w = .ok () (w.setRow g (cur.setIfInBounds (k + i) v)) := by
      rw [hadd, run_store P w _ v _ (h1 v (by simp)), hcell]
      simp [hfro, setCell_eq_setRow w g (k + i) cur t (0, 0) v hg]
    have ih := run_storeCells_at g k t rest (i + 1) (cur.setIfInBounds (k + i) v) (w.setRow g (cur.setIfInBounds (k + i) v)) (setRow_heap w g cur _ t _ hg) (by simp at hl ⊢; omega) (fun x hx => h1 x (by simp [hx]))
    simp only [storeCells, Sem.run_bind, hst, Result.andThen_ok, ih, setRow_setRow]
    congr 3
    rw [Array.toList_setIfInBounds]
    exact patch_step cur.toList rest v (k + i) (by simpa using hi)
/-- A store of a whole array into a part of a block. -/
theorem run_storeVar_part (w : World) (g k : Nat) (t ty : TypeId) (old cells : Array Value) (hg : w.heap[g]? = some (.cells old t (0, 0))) (hi : (P.info? ty).map (·.size) = some cells.size)
    (ho : k + cells.size ≤ old.size) (h1 : cells.all (·.oneCell') = true) :
    (storeVar ty ⟨g, k, none⟩ (.agg cells)).run P w = .ok () (w.setRow g (patch old.toList cells.toList k).toArray) := by
  have := run_storeCells_at (P := P) g k t cells.toList 0 old w hg (by simp; omega) (fun v hv => (Array.all_eq_true_iff_forall_mem.1 h1) v (by simpa using hv))
  cases hq : P.info? ty with
  | none => simp [hq] at hi
  | some i =>
    have hs : cells.size = i.size := by simp [hq] at hi; omega
    rw [Nat.add_zero] at this
    simp [storeVar, sizeOf, typeInfo, hq, Value.cells, hs, this]
theorem fl_store (ty : TypeId) (x y : Operand) (ho : o.op = .store ty x y)
    (g k : Nat) (cells new : Array Value) (hx : a.eval x = .pointer (some ⟨g, k, none⟩)) (hy : a.eval y = .agg cells)
    (t : TypeId) (old : Array Value) (hg : w.heap[g]? = some (.cells old t (0, 0))) (hi : (P.info? ty).map (·.size) = some cells.size)
    (hold : k + cells.size ≤ old.size) (h1 : cells.all (·.oneCell') = true) (hn : (patch old.toList cells.toList k).toArray = new) : (execOp a.eval o).run P w = .ok .skip (w.setRow g new) := by
  subst hn
  unfold execOp
  simp only [ho, hx, hy, Instr.storeAt, Instr.sureAddr, Sem.run_bind, Sem.run_pure, Result.andThen_ok, run_storeVar_part w g k t ty old cells hg hi hold h1]
theorem fl_exec {ops : Array Oper} {K : Act → World → Prop} {Q : Exit → Act → World → Prop} {v : Value} {w' : World} (hg : o.guard = none) (he : (execOp a.eval o).run P w = .ok (.value v) w') (h : K (a.put o.dst v) w') :
    if Region.wanted o (yielded ops a.tmps) = true then Oper.wp P o a w K Q else K (a.put o.dst undef) w := by
  rw [if_pos (by simp [Region.wanted, hg])]
  unfold Oper.wp
  rw [he]
  exact h
theorem fl_skip {ops : Array Oper} {K : Act → World → Prop} {Q : Exit → Act → World → Prop} {w' : World} (hg : o.guard = none) (he : (execOp a.eval o).run P w = .ok .skip w') (h : K (a.put o.dst undef) w') :
    if Region.wanted o (yielded ops a.tmps) = true then Oper.wp P o a w K Q else K (a.put o.dst undef) w := by
  rw [if_pos (by simp [Region.wanted, hg])]
  unfold Oper.wp
  rw [he]
  exact h
theorem fl_call {ops : Array Oper} {K : Act → World → Prop} {Q : Exit → Act → World → Prop} {f : FuncId} {args : Array Value} {R : Value → World → Prop} (hg : o.guard = none) (he : (execOp a.eval o).run P w = .ok (.enter f args) w)
    (hc : Calls P f args w fun e w' => ∃ v, e = .returned v ∧ R v w') (h : ∀ v w', R v w' → K (a.put o.dst v) w') :
    if Region.wanted o (yielded ops a.tmps) = true then Oper.wp P o a w K Q else K (a.put o.dst undef) w := by
  rw [if_pos (by simp [Region.wanted, hg])]
  unfold Oper.wp
  rw [he, Oper.upon_enter]
  refine hc.mono ?_
  rintro e w' ⟨v, rfl, hv⟩
  exact h v w' hv
end

section
variable {P : Program} {ops : Array Oper} {Q : Exit → Act → World → Prop} {md : Region.Mode} {c : Nat} {S0 S1 : World → Prop}
/-- The rule by an invariant, beside the two conditions. -/
theorem anyC_inv (Φ : Array Bool → Act → World → Prop) (hS : ∀ l a w, Φ l a w → S0 w ∧ (l.getD c true = false → S1 w))
    (h : ∀ l a w, Φ l a w → (∀ n, cnt l ≤ n → anyC P md ops Q c S0 S1 n l a w) ∨ ((Region.ready md ops l = [] → Q .normal a w) ∧ ∀ i ∈ Region.ready md ops l, wpOp P ops Q i (Φ (l.setIfInBounds i true)) a w)) :
    ∀ (n : Nat) (l : Array Bool) (a : Act) (w : World), cnt l ≤ n → Φ l a w → anyC P md ops Q c S0 S1 n l a w := by
  intro n
  induction n with
  | zero =>
    intro l a w hc hp
    rcases h l a w hp with hd | ⟨he, _⟩
    · exact hd 0 hc
    · have hr : Region.ready md ops l = [] := by
        refine List.eq_nil_iff_forall_not_mem.2 fun j hj => ?_
        have h1 := (mem_ready.1 hj).1
        rw [cnt_zero (Nat.le_zero.1 hc) j] at h1
        cases h1
      exact ⟨hr, he hr⟩
  | succ n ih =>
    intro l a w hc hp
    rcases h l a w hp with hd | ⟨he, hs⟩
    · exact hd (n + 1) hc
    · refine ⟨he, fun i hi => wpOp_mono (fun a' w' hp' => ⟨hS _ _ _ hp', ih _ a' w' ?_ hp'⟩) (hs i hi)⟩
      have := cnt_set (mem_ready.1 hi).1
      omega
end
end Go.Proofs.YtkniifopfgeopaaDoor

namespace Go.Proofs.YtkniifopfgeopaaDoor
open Go.RowKit
set_option linter.unusedVariables false

/-- The result of a function that returns bytes and a bool. -/
def BytesOk (w : World) (r : List Int × Bool) (e : Ending) (w' : World) : Prop := ∃ p n c, e = .returned (.tuple #[.slice p n c, .bool r.2]) ∧ Byt w' p n c r.1 ∧ Below w.heap.size w w'

/-- The same; the bytes lie in a block of bytes of the call's own. -/
def BodOk (w : World) (r : List Int × Bool) (e : Ending) (w' : World) : Prop := ∃ p n c, e = .returned (.tuple #[.slice p n c, .bool r.2]) ∧ Bod w' w.heap.size p n c r.1 ∧ Below w.heap.size w w'

set_option maxHeartbeats 400000 in
theorem slice_bod (p : Option Addr) (n c : Nat) (xs : List Int) (w : World) (h : Byt w p n c xs) (hb : n ≤ 140737488355328) (a k : Int) (ha : -9223372036854775808 ≤ a ∧ a ≤ 9223372036854775807) (hk : -9223372036854775808 ≤ k ∧ k ≤ 9223372036854775807) :
    Calls Tryd.prog 63 #[.slice p n c, .int .i64 a, .int .i64 k] w (BodOk w (pieceR xs a k)) := by
  have hn := h.le
  by_cases hi : 0 ≤ a ∧ 0 ≤ k ∧ a + k ≤ n
  · obtain ⟨a, rfl⟩ := Int.eq_ofNat_of_zero_le hi.1
    obtain ⟨k, rfl⟩ := Int.eq_ofNat_of_zero_le hi.2.1
    have hin : a + k ≤ n := by omega
    have hcap := h.cap
    have hp := h.part a (a + k) (by omega) hin
    rw [pieceR, if_pos (by have := h.len; omega)]
    have e1 : (xs.take (a + k)).drop a = (xs.drop a).take k := by rw [List.drop_take]; congr 1; omega
    have hr : ∀ x ∈ (xs.drop a).take k, 0 ≤ x ∧ x ≤ 255 := rng_take (rng_drop h.rng _) _
    rw [e1] at hp
    rw [show a + k - a = k by omega] at hp
    have HR := hidden hr
    clear h hi e1 hr
    by_cases hca : c = a
    · subst hca
      obtain rfl : k = 0 := by omega
      rw [if_pos rfl, Nat.sub_self] at hp
      have HB := hidden hp
      clear hp
      go_enter Tryd.func63, Tryd.ntmps63
      go_wp2_with (first | (go_at_call 79; refine (inside_yes _ _ _ _ _ _ (by omega) (by omega) (by omega) (by omega)).mono ?_; rintro e w' ⟨rfl, rfl⟩))
      refine (clone_any _ _ _ _ _ HB.out (by omega)).mono ?_
      rintro e w' ⟨v, rfl, hown, hbel⟩
      go_wp2
      obtain ⟨p', c', rfl, hby⟩ := hown.bod rfl HR.out
      go_ret2
      exact ⟨p', _, c', rfl, hby, hbel⟩
    · rw [if_neg hca] at hp
      have HB := hidden hp
      clear hp
      go_enter Tryd.func63, Tryd.ntmps63
      go_wp2_with (first | (go_at_call 79; refine (inside_yes _ _ _ _ _ _ (by omega) (by omega) (by omega) (by omega)).mono ?_; rintro e w' ⟨rfl, rfl⟩) | (go_at_call 68; refine (clone_any _ _ _ _ _ HB.out (by omega)).mono ?_; rintro e w' ⟨v, rfl, hown, hbel⟩))
      obtain ⟨p', c', rfl, hby⟩ := hown.bod rfl HR.out
      go_ret2
      exact ⟨p', _, c', rfl, hby, hbel⟩
  · rw [pieceR, if_neg (by have := h.len; omega)]
    clear h
    go_enter Tryd.func63, Tryd.ntmps63
    go_wp2_with (first | (go_at_call 79; refine (inside_no _ _ _ _ _ _ (by omega) (by omega) (by omega)).mono ?_; rintro e w' ⟨rfl, rfl⟩))
    go_ret2
    exact ⟨_, _, _, rfl, Bod.nil _ _ _ _ (Nat.zero_le _), Below.refl _ _⟩

end Go.Proofs.YtkniifopfgeopaaDoor

namespace Go.Proofs.YtkniifopfgeopaaDoor
open Go.RowKit
set_option linter.unusedVariables false

theorem toList_nums (xs : List Int) : (strOfNums xs).toList = xs.map fun n => UInt8.ofNat n.toNat := by
  unfold ByteArray.toList
  rw [ByteArray.toList_loop_eq _ _ 0 [] rfl (Nat.zero_le _)]
  rfl
theorem strOfNums_inj : ∀ (xs ys : List Int), (∀ x ∈ xs, 0 ≤ x ∧ x ≤ 255) → (∀ x ∈ ys, 0 ≤ x ∧ x ≤ 255) → (strOfNums xs).toList = (strOfNums ys).toList → xs = ys := by
  suffices h : ∀ (xs ys : List Int), (∀ x ∈ xs, 0 ≤ x ∧ x ≤ 255) → (∀ x ∈ ys, 0 ≤ x ∧ x ≤ 255) → (xs.map fun n => UInt8.ofNat n.toNat) = (ys.map fun n => UInt8.ofNat n.toNat) → xs = ys by
    intro xs ys hx hy he
    refine h xs ys hx hy ?_
    rw [← toList_nums, ← toList_nums, he]
  intro xs
  induction xs with
  | nil => intro ys _ _ h; cases ys with
    | nil => rfl
    | cons y ys => simp at h
  | cons x xs ih =>
    intro ys hx hy h
    cases ys with
    | nil => simp at h
    | cons y ys =>
      simp only [List.map_cons, List.cons.injEq] at h
      have h1 := hx x (by simp)
      have h2 := hy y (by simp)
      have h3 := congrArg UInt8.toNat h.1
      simp only [UInt8.toNat_ofNat'] at h3
      rw [show x = y by omega, ih ys (fun z hz => hx z (by simp [hz])) (fun z hz => hy z (by simp [hz])) h.2]

theorem conv_byt {P : Program} {w : World} {p : Option Addr} {n c : Nat} {xs : List Int} (h : Byt w p n c xs) (src e dst : TypeId) (hs : P.underlying src = some (.slice e)) (he : P.underlying e = some (.int .u8)) (hd : P.underlying dst = some .string) :
    (convert src dst (.slice p n c)).run P w = .ok (.string (strOfNums xs)) w := by
  have hl := h.len
  rcases Nat.eq_zero_or_pos n with h0 | h0
  · subst h0
    obtain rfl : xs = [] := List.eq_nil_of_length_eq_zero hl
    rw [run_convert_bytes_string w src dst e _ 0 c hs he hd]
    cases p <;> simp [Conv.bytesToString, loadCells]
    all_goals rfl
  · obtain ⟨b, o, rfl, hc⟩ := h.at_ h0
    exact run_convert_bytes_arg w src e hs he b o n c xs hl hc dst hd

set_option maxHeartbeats 400000 in
theorem bytesEqual_any (p q : Option Addr) (n c m d : Nat) (xs ys : List Int) (w : World) (h : Byt w p n c xs) (k : Byt w q m d ys) :
    Calls Tryd.prog 80 #[.slice p n c, .slice q m d] w fun e w' => e = .returned (.bool (decide (xs = ys))) ∧ w = w' := by
  have h1 := conv_byt (P := Tryd.prog) h 22 5 9 Tryd.underlying22 Tryd.underlying5 Tryd.underlying9
  have h2 := conv_byt (P := Tryd.prog) k 22 5 9 Tryd.underlying22 Tryd.underlying5 Tryd.underlying9
  have he : decide (xs = ys) = ((strOfNums xs).toList == (strOfNums ys).toList) := by
    rw [Bool.eq_iff_iff, decide_eq_true_eq, beq_iff_eq]
    exact ⟨fun e => by rw [e], strOfNums_inj xs ys h.rng k.rng⟩
  rw [he]
  clear he h k
  go_enter Tryd.func80, Tryd.ntmps80
  go_wp2
  go_ret
  exact ⟨rfl, rfl⟩

theorem equal_any (p q : Option Addr) (n c m d : Nat) (xs ys : List Int) (w : World) (h : Byt w p n c xs) (k : Byt w q m d ys) :
    Calls Tryd.prog 64 #[.slice p n c, .slice q m d] w fun e w' => e = .returned (.bool (decide (xs = ys))) ∧ w = w' := by
  have HC := hidden (bytesEqual_any p q n c m d xs ys w h k)
  clear h k
  go_enter Tryd.func64, Tryd.ntmps64
  go_wp2_with (go_at_call 80; refine HC.out.mono ?_; rintro e w' ⟨rfl, rfl⟩)
  go_ret
  exact ⟨rfl, rfl⟩
end Go.Proofs.YtkniifopfgeopaaDoor

namespace Go.Proofs.YtkniifopfgeopaaDoor
open Go.RowKit
set_option linter.unusedVariables false

set_option maxHeartbeats 800000 in
theorem rcompare_any (p q : Option Addr) (n c m d : Nat) (xs ys : List Int) (w : World) (h : Byt w p n c xs) (k : Byt w q m d ys) :
    Calls Tryd.prog 36 #[.slice p n c, .slice q m d] w fun e w' => e = .returned (.int .i64 (cmpR xs ys)) ∧ ∃ r, w' = w.drewN r := by
  have hln := h.le
  have hlm := k.le
  have HX := hidden h.len
  have HY := hidden k.len
  have HC := hidden (fun j (hj : j < n) => (show ∃ b o, p = some ⟨b, o, none⟩ ∧ w.cell? ⟨b, o + j, none⟩ = some (.int .u8 (xs.getD j 0)) by
    obtain ⟨b, o, e, hc⟩ := h.at_ (by omega)
    exact ⟨b, o, e, hc j hj⟩))
  have HD := hidden (fun j (hj : j < m) => (show ∃ b o, q = some ⟨b, o, none⟩ ∧ w.cell? ⟨b, o + j, none⟩ = some (.int .u8 (ys.getD j 0)) by
    obtain ⟨b, o, e, hc⟩ := k.at_ (by omega)
    exact ⟨b, o, e, hc j hj⟩))
  have HR := hidden h.rng
  have HS := hidden k.rng
  clear h k
  go_enter Tryd.func36, Tryd.ntmps36
  go_wp2
  go_loopw [5] (fun i wr => ∃ j : Nat, j ≤ n ∧ j ≤ m ∧ i = .int .i64 j ∧ cmpR xs ys = cmpR (xs.drop j) (ys.drop j) ∧ ∃ r, wr = w.drewN r) (fun i _ => n - (intOf i).toNat)
  case atStart => exact ⟨0, by omega, by omega, rfl, rfl, 0, rfl⟩
  case round =>
    obtain ⟨j, hjn, hjm, rfl, he, r, rfl⟩ := hrel
    by_cases h1 : j < n
    · by_cases h2 : j < m
      · obtain ⟨b, o, rfl, hc1⟩ := HC.out j h1
        obtain ⟨b', o', rfl, hc2⟩ := HD.out j h2
        have hs := cmpR_step xs ys j (by rw [HX.out]; exact h1) (by rw [HY.out]; exact h2) he
        have r1 := rng_getD HR.out j
        have r2 := rng_getD HS.out j
        clear he
        generalize xs.getD j 0 = x at *
        generalize ys.getD j 0 = y at *
        by_cases hl : x < y
        · have E := hidden (hs.1 hl)
          clear hs
          go_wp2
          go_quiet (fail)
          go_wp2
          go_ret
          refine ⟨by rw [E.out]; rfl, ?_⟩
          simp only [World.drewN_drewN]
          exact ⟨_, rfl⟩
        · by_cases hg : y < x
          · have E := hidden (hs.2.1 hg)
            clear hs
            go_wp2
            go_quiet (fail)
            go_wp2
            go_quiet (fail)
            go_wp2
            go_ret
            refine ⟨by rw [E.out]; rfl, ?_⟩
            simp only [World.drewN_drewN]
            exact ⟨_, rfl⟩
          · have E := hidden (hs.2.2 (by omega))
            clear hs
            go_wp2
            go_quiet (fail)
            go_wp2
            go_quiet (fail)
            go_wp2
            go_roundw
            case rel => exact ⟨j + 1, by omega, by omega, by go_num, E.out, _, rfl⟩
            case measure => simp [intOf]; omega
      · have E := hidden (cmpR_end xs ys j (by rw [HX.out, HY.out]; omega) (by rw [HX.out]; omega) (by rw [HY.out]; omega) he)
        clear he
        obtain rfl : j = m := by omega
        have E1 := hidden (E.out.2.1 (by rw [HX.out, HY.out]; omega))
        clear E HC HD
        go_wp2
        go_ret
        exact ⟨by rw [E1.out]; rfl, _, rfl⟩
    · have E := hidden (cmpR_end xs ys j (by rw [HX.out, HY.out]; omega) (by rw [HX.out]; omega) (by rw [HY.out]; omega) he)
      clear he
      obtain rfl : j = n := by omega
      by_cases h2 : j < m
      · have E1 := hidden (E.out.1 (by rw [HX.out, HY.out]; omega))
        clear E HC HD
        go_wp2
        go_ret
        exact ⟨by rw [E1.out]; rfl, _, rfl⟩
      · obtain rfl : j = m := by omega
        have E1 := hidden (E.out.2.2 (by rw [HX.out, HY.out]))
        clear E HC HD
        go_wp2
        go_ret
        exact ⟨by rw [E1.out]; rfl, _, rfl⟩

set_option maxHeartbeats 400000 in
theorem requal_any (p q : Option Addr) (n c m d : Nat) (xs ys : List Int) (w : World) (h : Byt w p n c xs) (k : Byt w q m d ys) :
    Calls Tryd.prog 15 #[.slice p n c, .slice q m d] w fun e w' => e = .returned (.bool (decide (xs = ys))) ∧ ∃ r, w' = w.drewN r := by
  have HC := hidden (rcompare_any p q n c m d xs ys w h k)
  have he : decide (xs = ys) = (cmpR xs ys == 0) := by
    rw [Bool.eq_iff_iff, decide_eq_true_eq, beq_iff_eq]
    exact ⟨fun e => by rw [e, cmpR_refl], cmpR_eq xs ys⟩
  have HE := hidden he
  clear h k he
  go_enter Tryd.func15, Tryd.ntmps15
  go_wp2_with (go_at_call 36; refine HC.out.mono ?_; rintro e w' ⟨rfl, r, rfl⟩)
  go_ret
  exact ⟨by rw [HE.out]; rfl, _, rfl⟩
end Go.Proofs.YtkniifopfgeopaaDoor

namespace Go.Proofs.YtkniifopfgeopaaDoor
open Go.RowKit
set_option linter.unusedVariables false

/-- The result of a function that returns bytes, and writes nothing but the choices. -/
def Made (W w : World) (k : Nat) (e : Ending) (w' : World) : Prop := ∃ p n c ys, e = .returned (.slice p n c) ∧ Byt w' p n c ys ∧ n ≤ 9001 ∧ Cod W w' k ∧ w.grownBy w' (some k)

/-- The same, with where the bytes lie. -/
def MadeB (W w : World) (k N : Nat) (e : Ending) (w' : World) : Prop := ∃ p n c ys, e = .returned (.slice p n c) ∧ Bod w' w.heap.size p n c ys ∧ n ≤ N + 1 ∧ Cod W w' k ∧ w.grownBy w' (some k)
theorem Bod.front {w : World} {base : Nat} {p : Option Addr} {n c : Nat} {xs : List Int} (h : Bod w base p n c xs) (j : Nat) (hj : j ≤ n) : Bod w base p j c (xs.take j) := ⟨h.byt.front j hj, fun h0 => h.own (by omega)⟩

theorem or_byte_i64 (v x : Int) (h0 : 0 ≤ v) (h1 : v < 256) (h2 : 0 ≤ x) (h3 : x < 256) : bits .or .i64 (v * 256) x = v * 256 + x :=
  bits_join .i64 63 (by decide) wraps_i64 8 _ _ (by omega) (by omega) (by omega) h2 (by omega) (by omega)

set_option maxHeartbeats 1600000 in
theorem change_bod (W w : World) (k : Nat) (h : Cod W w k) (p : Option Addr) (n c : Nat) (xs : List Int) (hx : Byt w p n c xs) (hn : n ≤ 9000) :
    Calls Tryd.prog 16 #[.pointer (some ⟨k, 0, none⟩), .slice p n c] w (MadeB W w k n) := by
  obtain ⟨i0, hi, hz0, hz1, hz2⟩ := info_parts Tryd.infoByte
  have hk := h.lt
  have hbase := h.base
  have H := hidden h
  have HX := hidden hx
  clear h hx
  go_enter Tryd.func16, Tryd.ntmps16
  go_wp2_with (at_builtin; refine wpList_append_byt _ rfl _ _ 22 rfl w.heap.size 5 i0 (.int .u8 0) Tryd.underlying22 hi hz0 hz1 hz2 rfl _ _ rfl (Own.nil w w.heap.size 5) _ _ _ _ _ rfl HX.out rfl ?c1 (Nat.le_refl _) ?_)
  case c1 => first | omega | (simp; omega)
  intro v w1 hown hg
  have hl := HX.out.len
  have hcod := H.out.grown hg (by simp [Value.ownBlock]) (by simp [Value.ownBlock])
  have HG := hidden (grown_own (grown_refl w (some k)) hg (by simp [Value.ownBlock]))
  have HC := hidden hcod
  have HO := hidden hown
  clear hg hcod hown H
  go_wp2_with (go_at_call 28; refine (next_any W _ k HC.out _ ?_).mono ?_; omega)
  rintro e w2 ⟨r, rfl, r0, r1, hc, hg⟩
  have HO2 := hidden (show Own w2 w.heap.size 5 v xs from World.ownsRow.kept HO.out hg (by
    rcases hv : v.ownBlock with _ | b
    · exact Or.inl rfl
    · have := (HO.out.lt b hv).1
      exact Or.inr (by simp; omega)))
  have HC2 := hidden hc
  have HG2 := hidden (grown_trans HG.out hg)
  clear hg hc HO HC HG
  by_cases h0 : r = 0
  · subst h0
    go_wp2_with (first | (go_at_call 28; refine (next_any W _ k HC2.out _ ?_).mono ?_; omega))
    rintro e w3 ⟨x, rfl, x0, x1, hc, hg⟩
    have HO3 := hidden (show Own w3 w.heap.size 5 v xs from World.ownsRow.kept HO2.out hg (by
      rcases hv : v.ownBlock with _ | b
      · exact Or.inl rfl
      · have := (HO2.out.lt b hv).1
        exact Or.inr (by simp; omega)))
    have HC3 := hidden hc
    have HG3 := hidden (grown_trans HG2.out hg)
    clear hg hc HO2 HC2 HG2
    go_wp2_with (at_builtin; go_loud (refine wpList_append_byt _ rfl _ _ 22 rfl w.heap.size 5 i0 (.int .u8 0) Tryd.underlying22 hi hz0 hz1 hz2 rfl _ _ rfl (HO3.out.alloc _) _ _ _ _ _ rfl (one_byte _ _ x ?c0 ?c1) rfl ?c2 ?c3 ?_))
    case c0 => omega
    case c1 => rw [World.cell?_alloc_at _ _ _ _ rfl]; rfl
    case c2 => omega
    case c3 => have := HG3.out.size; simp; omega
    intro u w4 hown hg
    have HC4 := hidden ((HC3.out.alloc _).grown hg (fun e => by have := (HO3.out.lt k e.symm).1; omega) (fun j hj => by have := (HO3.out.lt j hj).1; omega))
    have HG4 := hidden (grown_own (grown_alloc_new HG3.out _) hg (fun j hj => (HO3.out.lt j hj).1))
    obtain ⟨p', c', rfl, hb⟩ := Own.bod hown rfl (rng_append HX.out.rng (by intro z hz; simp at hz; omega))
    have HB := hidden hb
    clear hg hown hb HC3 HG3 HO3
    go_wp2
    go_ret
    exact ⟨_, _, _, _, rfl, HB.out, by first | omega | (simp; omega), HC4.out, HG4.out⟩
  have e0 : (r == 0) = false := by simpa using h0
  by_cases h1 : r = 1
  · subst h1
    obtain ⟨p', c', rfl, hb⟩ := HO2.out.byt HX.out.rng
    rw [hl] at hb
    have hcap := hb.cap
    have hbig := hb.big
    unfold maxLen at hbig
    clear hb
    rw [hl] at HO2 ⊢
    go_wp2_with (first | (go_at_call 28; refine (next_any W _ k HC2.out _ ?_).mono ?_; omega))
    rintro e w3 ⟨x, rfl, x0, x1, hc, hg⟩
    obtain ⟨x, rfl⟩ := Int.eq_ofNat_of_zero_le x0
    obtain ⟨y, hy⟩ : ∃ y, y = n * x := ⟨_, rfl⟩
    have hm : (n : Int) * (x : Int) = (y : Int) := by rw [hy]; simp
    have hy8 : y ≤ n * 8 := by rw [hy]; exact Nat.mul_le_mul_left _ (by omega)
    have hq : y / 9 ≤ n := by omega
    have HO3 := hidden (show Own w3 w.heap.size 5 (.slice p' n c') xs from World.ownsRow.kept HO2.out hg (by
      rcases hv : (Value.slice p' n c').ownBlock with _ | b
      · exact Or.inl rfl
      · have := (HO2.out.lt b hv).1
        exact Or.inr (by simp; omega)))
    obtain ⟨_, _, he, hb⟩ := HO3.out.bod hl HX.out.rng
    simp at he
    obtain ⟨rfl, rfl⟩ := he
    have HB4 := hidden (hb.front (y / 9) hq)
    have HC3 := hidden hc
    have HG3 := hidden (grown_trans HG2.out hg)
    clear hg hc hb HC2 HG2 HO2 HO3 hl hy HX
    go_wp2
    go_ret
    exact ⟨_, _, _, _, rfl, HB4.out, by omega, HC3.out, HG3.out⟩
  have e1 : (r == 1) = false := by simpa using h1
  rcases Nat.eq_zero_or_pos n with hz | hp
  · obtain ⟨p', c', rfl, hb⟩ := HO2.out.bod hl HX.out.rng
    have HB := hidden hb
    clear hb HO2
    subst hz
    clear hl HX hn
    go_wp2
    go_ret
    exact ⟨_, _, _, _, rfl, HB.out, by omega, HC2.out, HG2.out⟩
  obtain ⟨g, c', rfl, hg0, hg1, hcell, hfr⟩ := HO2.out.at_ hl hp
  have hcap : n ≤ c' := by
    obtain ⟨_, _, he, hb⟩ := HO2.out.byt HX.out.rng
    rw [hl] at hb he
    simp at he
    rw [he.2]
    exact hb.cap
  go_wp2_with (first | (go_at_call 28; refine (next_any W _ k HC2.out _ ?_).mono ?_; omega))
  rintro e w3 ⟨x, rfl, x0, x1, hc, hg⟩
  have HC3 := hidden hc
  have HG3 := hidden (grown_trans HG2.out hg)
  have HO3 := hidden (show Own w3 w.heap.size 5 (.slice (some ⟨g, 0, none⟩) n c') xs from World.ownsRow.kept HO2.out hg (Or.inr (by simp [Value.ownBlock]; omega)))
  clear hg hc HC2 HG2 HO2 hcell hfr
  go_wp2_with (first | (go_at_call 28; refine (next_any W _ k HC3.out _ ?_).mono ?_; omega))
  rintro e w4 ⟨y, rfl, y0, y1, hc, hg⟩
  have HC4 := hidden hc
  have HG4 := hidden (grown_trans HG3.out hg)
  have HO4 := hidden (show Own w4 w.heap.size 5 (.slice (some ⟨g, 0, none⟩) n c') xs from World.ownsRow.kept HO3.out hg (Or.inr (by simp [Value.ownBlock]; omega)))
  clear hg hc HC3 HG3 HO3
  have hor := or_byte_i64 x y x0 x1 y0 y1
  obtain ⟨i, hi⟩ := Int.eq_ofNat_of_zero_le (show 0 ≤ (x * 256 + y).tmod n by rw [Int.tmod_eq_emod_of_nonneg (by omega)]; exact Int.emod_nonneg _ (by omega))
  have hin : i < n := by
    have := Int.tmod_lt_of_pos (x * 256 + y) (show (0 : Int) < n by omega)
    omega
  obtain ⟨_, _, he, _, _, hcell, hfr⟩ := HO4.out.at_ hl hp
  simp at he
  obtain ⟨rfl, rfl⟩ := he
  have hc4 := hcell i hin
  have hf4 := hfr i
  have hz := rng_getD HX.out.rng i
  generalize xs.getD i 0 = z at hc4 hz
  clear hcell hfr
  go_wp2
  have hgk : g ≠ k := by omega
  have hgs : g < w4.heap.size := World.block_lt_of_cell? w4 _ hc4
  have HK := hidden (fun (w5 : World) (hg5 : w4.drew.grownBy w5 (some k)) => (show w5.cell? ⟨g, i, none⟩ = some (.int .u8 z) ∧ w5.frozen? ⟨g, i, none⟩ = false from
    ⟨hg5.cell (show w4.drew.cell? ⟨g, i, none⟩ = some (.int .u8 z) from hc4) (by simp; exact hgk), (World.frozen?_of_block (a := ⟨g, i, none⟩) (hg5.block g hgs (by simp; exact hgk))).trans hf4⟩))
  have HCD := hidden (show Cod W w4.drew k from HC4.out.below (drew_below ⟨1, rfl⟩))
  have hcd : w4.drew.cell? ⟨g, i, none⟩ = some (.int .u8 z) := hc4
  have hfd : w4.drew.frozen? ⟨g, i, none⟩ = false := hf4
  go_region_with (go_at_call 28; (with_reducible refine (next_any W _ k HCD.out _ ?_).mono ?_); omega; rintro e w5 ⟨t, rfl, t0, t1, hc5, hg5⟩; have hc6 := (HK.out _ hg5).1; have hf6 := (HK.out _ hg5).2)
  all_goals
    have HO5 := hidden (show Own w5 w.heap.size 5 (.slice (some ⟨g, 0, none⟩) n c') xs from World.ownsRow.kept (HO4.out.drew) hg5 (Or.inr (by simp [Value.ownBlock]; omega)))
    have HC5 := hidden hc5
    have HG5 := hidden (grown_trans (show w.grownBy w4.drew (some k) from grown_trans HG4.out (grown_drewN w4 1 _)) hg5)
    clear hg5 hc5 HC4 HG4 HK HO4 HCD
    go_wp2
    go_ret
    obtain ⟨_, _, he, hb⟩ := Own.bod (n := n) (HO5.out.set hl i (bits BinOp.xor IntKind.u8 z (IntKind.u8.wrap (IntKind.i64.wrap (1 + t))))) ((List.length_set ..).trans hl) (rng_set HX.out.rng i ⟨bits_lo_u8 _ _ _, bits_hi_u8 _ _ _⟩)
    simp at he
    obtain ⟨rfl, rfl⟩ := he
    exact ⟨_, _, _, _, rfl, hb, by omega, HC5.out.set _ _ _ (by omega) hgk, grown_set_new HG5.out _ _ _ hg0⟩
end Go.Proofs.YtkniifopfgeopaaDoor

namespace Go.Proofs.YtkniifopfgeopaaDoor
open Go.RowKit
set_option linter.unusedVariables false

theorem mod_any (x n : Int) (w : World) (hx : -9223372036854775808 ≤ x ∧ x ≤ 9223372036854775807) (hn : 1 ≤ n ∧ n ≤ 9223372036854775807) :
    Calls Tryd.prog 8 #[.int .i64 x, .int .i64 n] w fun e w' => e = .returned (.int .i64 (x % n)) ∧ w = w' := by
  have hb := Int.tmod_lt_of_pos x (show 0 < n by omega)
  have hb2 : -n < x.tmod n := by
    have := Int.tmod_lt_of_pos (-x) (show 0 < n by omega)
    rw [Int.neg_tmod] at this
    omega
  have he : x % n = if x.tmod n < 0 then x.tmod n + n else x.tmod n := by
    have h1 := Int.mul_tdiv_add_tmod x n
    split
    · rename_i h
      have : x = (x.tmod n + n) + n * (x.tdiv n - 1) := by rw [Int.mul_sub]; omega
      rw [this, Int.add_mul_emod_self_left]
      rw [← this]
      exact Int.emod_eq_of_lt (by omega) (by omega)
    · rename_i h
      have : x = x.tmod n + n * x.tdiv n := by omega
      rw [this, Int.add_mul_emod_self_left]
      rw [← this]
      exact Int.emod_eq_of_lt (by omega) (by omega)
  rw [he]
  clear he
  by_cases h0 : 0 ≤ x
  · have e1 : x.tmod n = x % n := Int.tmod_eq_emod_of_nonneg h0
    rw [e1] at hb hb2 ⊢
    have := Int.emod_nonneg x (show n ≠ 0 by omega)
    rw [if_neg (by omega)]
    clear e1
    go_enter Tryd.func8, Tryd.ntmps8
    go_wp2
    go_ret
    exact ⟨rfl, rfl⟩
  · by_cases hneg : x.tmod n < 0
    · rw [if_pos hneg]
      go_enter Tryd.func8, Tryd.ntmps8
      go_wp2
      go_ret
      exact ⟨rfl, rfl⟩
    · rw [if_neg hneg]
      go_enter Tryd.func8, Tryd.ntmps8
      go_wp2
      go_ret
      exact ⟨rfl, rfl⟩
end Go.Proofs.YtkniifopfgeopaaDoor

namespace Go.Proofs.YtkniifopfgeopaaDoor
open Go.RowKit

abbrev listK : List (String × DataW Unit) := [("ipsecgate/sha256.constants", Rows.laid_ipsecgate_sha256_constants)]
abbrev stepsK : Nat := 19
theorem gK : Tryd.prog.globalNamed "ipsecgate/sha256.constants" = some 2 := by kernel_rfl
theorem tK : (Tryd.prog.globals[2]?).map (·.type) = some 112 := by kernel_rfl
theorem cellsU : Tryd.prog.cellsOf 100 = 1 := by kernel_rfl
theorem cells64 : Tryd.prog.cellsOf 112 = 64 := by kernel_rfl
theorem laidK {W : World} (h : laidMetH Tryd.prog listK W) : KAt W := by
  rw [MakeChecks.laidMetH_plain _ _ _ (by kernel_rfl)] at h
  have h' : laidMet Tryd.prog [("ipsecgate/sha256.constants", Lib.tabData .u32 kTab)] W := h
  have hT := Lib.tabIs_of_head gK tK Tryd.underlying112 Tryd.underlying100 cellsU cells64 h'
  have hc := fun j (hj : j < 64) => hT.cell gK j (by rw [kTab_len]; exact hj)
  exact ⟨hc, World.block_lt_of_cell? W _ (hc 0 (by omega))⟩
theorem doorK (os : Os) (args : Array Value) : laidMetH Tryd.prog listK ((World.doorLaid Tryd.prog stepsK os).forCall (fun _ _ => 0) ⟨#[], args, []⟩).memory :=
  laidMetH_of_parts3 (fuel := 8) (laidMet_of_run' 8 (by kernel_rfl) (by kernel_rfl)) (by kernel_rfl) (by kernel_rfl)
end Go.Proofs.YtkniifopfgeopaaDoor
