/-
  Lists of payloads in memory, whatever the program: a row of the call's own whose elements have three cells: a number, a Boolean, a slice of bytes.
-/
import Derived.Test.YtdlcdegfoadajaaGrow
import Derived.Test.YtdlcdegfoadajaaChainMath
namespace Go.Proofs.Ytdlcdegfoadajaa
open Go.RowKit
set_option linter.unusedVariables false

/-- A payload with the place of its body. -/
structure RawP where
  k : Int
  c : Bool
  p : Option Addr
  n : Nat
  m : Nat
  b : List Int
def RawP.raw (x : RawP) : Raw := ⟨x.k, x.c, x.b⟩
def RawP.cells (x : RawP) : List Value := [.int .i64 x.k, .bool x.c, .slice x.p x.n x.m]
def rowC : List RawP → List Value
  | [] => []
  | x :: l => x.cells ++ rowC l
theorem rowC_append (l r : List RawP) : rowC (l ++ r) = rowC l ++ rowC r := by
  induction l with
  | nil => rfl
  | cons x l ih => simp [rowC, ih]
theorem rowC_len (l : List RawP) : (rowC l).length = l.length * 3 := by
  induction l with
  | nil => rfl
  | cons x l ih => simp [rowC, RawP.cells, ih]; omega
theorem rowC_one (l : List RawP) : ∀ u ∈ rowC l, u.oneCell' = true := by
  induction l with
  | nil => intro u hu; cases hu
  | cons x l ih =>
    intro u hu
    rw [rowC] at hu
    rcases List.mem_append.1 hu with h | h
    · simp [RawP.cells] at h
      rcases h with rfl | rfl | rfl <;> rfl
    · exact ih u h
theorem rowC_get (l : List RawP) (j : Nat) (hj : j < l.length) : (rowC l)[j * 3]? = some (.int .i64 l[j].k) ∧ (rowC l)[j * 3 + 1]? = some (.bool l[j].c) ∧ (rowC l)[j * 3 + 2]? = some (.slice l[j].p l[j].n l[j].m) := by
  induction l generalizing j with
  | nil => simp at hj
  | cons x l ih =>
    cases j with
    | zero => simp [rowC, RawP.cells]
    | succ j =>
      have h := ih j (by simpa using hj)
      have e1 : (j + 1) * 3 = j * 3 + 3 := by omega
      have e2 : (j + 1) * 3 + 1 = j * 3 + 1 + 3 := by omega
      have e3 : (j + 1) * 3 + 2 = j * 3 + 2 + 3 := by omega
      rw [e1, show j * 3 + 3 + 1 = j * 3 + 1 + 3 by omega, show j * 3 + 3 + 2 = j * 3 + 2 + 3 by omega]
      simpa [rowC, RawP.cells] using h

/-- The call's own row v holds the payloads. -/
def OwnR (w : World) (base : Nat) (e : TypeId) (v : Value) (l : List RawP) : Prop := w.ownsRow base e 3 v l.length (rowC l)
/-- Their bodies read as their bytes. -/
def BodR (w : World) (l : List RawP) : Prop := ∀ x ∈ l, Byt w x.p x.n x.m x.b

theorem OwnR.nil (w : World) (base : Nat) (e : TypeId) : OwnR w base e (.slice none 0 0) [] := World.ownsRow_nil w base e 3
theorem OwnR.alloc {w : World} {base : Nat} {e : TypeId} {v : Value} {l : List RawP} (h : OwnR w base e v l) (o : Obj) : OwnR (w.alloc o) base e v l := World.ownsRow.alloc h o
theorem OwnR.lt {w : World} {base : Nat} {e : TypeId} {v : Value} {l : List RawP} (h : OwnR w base e v l) : ∀ k, v.ownBlock = some k → base ≤ k ∧ k < w.heap.size := World.ownsRow.lt h
theorem OwnR.form {w : World} {base : Nat} {e : TypeId} {v : Value} {l : List RawP} (h : OwnR w base e v l) : ∃ p c, v = .slice p l.length c ∧ l.length ≤ c := by
  rcases h.2 with ⟨rfl, hn⟩ | ⟨g, cap, cur, rfl, _, _, hc, _⟩
  · exact ⟨none, 0, by rw [hn], by omega⟩
  · exact ⟨_, _, rfl, hc⟩
/-- A row that is not empty: where it lies, its cells, and that none is frozen. -/
theorem OwnR.at_ {w : World} {base : Nat} {e : TypeId} {v : Value} {l : List RawP} (h : OwnR w base e v l) {n : Nat} (hn : l.length = n) (hp : 0 < n) :
    ∃ g c, v = .slice (some ⟨g, 0, none⟩) n c ∧ n ≤ c ∧ c ≤ maxLen ∧ base ≤ g ∧ g < w.heap.size ∧ (∀ j u, (rowC l)[j]? = some u → w.cell? ⟨g, j, none⟩ = some u) ∧ (∀ j, w.frozen? ⟨g, j, none⟩ = false) := by
  subst hn
  have h0 := h
  rcases h.2 with ⟨rfl, hz⟩ | ⟨g, cap, cur, rfl, hb, hh, hnc, hm, hs, ht⟩
  · omega
  · refine ⟨g, cap, rfl, hnc, hm, hb, (Array.getElem?_eq_some_iff.1 hh).1, fun j u hj => ?_, fun j => World.ownsRow.frozenAt h0 j⟩
    have := World.ownsRow.cells h0 (g := g) rfl j u hj
    rw [WideShapes.add_plain, Nat.zero_add] at this
    exact this
theorem BodR.keep {w w' : World} {l : List RawP} (h : BodR w l) (hk : ∀ a v, w.cell? a = some v → w'.cell? a = some v) : BodR w' l := fun x hx => (h x hx).keep hk
theorem BodR.below {w w' : World} {l : List RawP} (h : BodR w l) (hb : Below w.heap.size w w') : BodR w' l := h.keep (cell_below hb)
theorem BodR.append {w : World} {l r : List RawP} (h : BodR w l) (k : BodR w r) : BodR w (l ++ r) := fun x hx => (List.mem_append.1 hx).elim (h x) (k x)
theorem BodR.one {w : World} {x : RawP} (h : Byt w x.p x.n x.m x.b) : BodR w [x] := fun y hy => by
  rw [List.mem_singleton.1 hy]
  exact h

/-- A payload with another type, or another body. -/
def RawP.withK (x : RawP) (k : Int) : RawP := { x with k := k }
def RawP.withB (x : RawP) (p : Option Addr) (n m : Nat) (b : List Int) : RawP := { x with p := p, n := n, m := m, b := b }
theorem rowC_setK (l : List RawP) (j : Nat) (k : Int) (hj : j < l.length) : rowC (l.set j (l[j].withK k)) = (rowC l).set (j * 3) (.int .i64 k) := by
  induction l generalizing j with
  | nil => simp at hj
  | cons x l ih =>
    cases j with
    | zero => simp [rowC, RawP.cells, RawP.withK]
    | succ j =>
      have h := ih j (by simpa using hj)
      rw [show (j + 1) * 3 = j * 3 + 3 by omega]
      simpa [rowC, RawP.cells] using h
theorem rowC_setB (l : List RawP) (j : Nat) (p : Option Addr) (n m : Nat) (b : List Int) (hj : j < l.length) : rowC (l.set j (l[j].withB p n m b)) = (rowC l).set (j * 3 + 2) (.slice p n m) := by
  induction l generalizing j with
  | nil => simp at hj
  | cons x l ih =>
    cases j with
    | zero => simp [rowC, RawP.cells, RawP.withB]
    | succ j =>
      have h := ih j (by simpa using hj)
      rw [show (j + 1) * 3 + 2 = j * 3 + 2 + 3 by omega]
      simpa [rowC, RawP.cells] using h
theorem OwnR.setK {w : World} {base : Nat} {e : TypeId} {g n c : Nat} {l : List RawP} (h : OwnR w base e (.slice (some ⟨g, 0, none⟩) n c) l) (hn : l.length = n) (j : Nat) (hj : j < l.length) (k : Int) :
    OwnR (w.setCell ⟨g, j * 3, none⟩ (.int .i64 k)) base e (.slice (some ⟨g, 0, none⟩) n c) (l.set j (l[j].withK k)) := by
  subst hn
  have := (World.ownsRow.stored h (j * 3) (.int .i64 k)).1
  unfold OwnR
  rw [List.length_set, rowC_setK _ _ _ hj]
  exact this
theorem OwnR.setB {w : World} {base : Nat} {e : TypeId} {g n c : Nat} {l : List RawP} (h : OwnR w base e (.slice (some ⟨g, 0, none⟩) n c) l) (hn : l.length = n) (j : Nat) (hj : j < l.length) (p : Option Addr) (a m : Nat) (b : List Int) :
    OwnR (w.setCell ⟨g, j * 3 + 2, none⟩ (.slice p a m)) base e (.slice (some ⟨g, 0, none⟩) n c) (l.set j (l[j].withB p a m b)) := by
  subst hn
  have := (World.ownsRow.stored h (j * 3 + 2) (.slice p a m)).1
  unfold OwnR
  rw [List.length_set, rowC_setB _ _ _ _ _ _ hj]
  exact this
/-- The cells of one payload of the row. -/
theorem OwnR.elem {w : World} {base : Nat} {e : TypeId} {v : Value} {l : List RawP} (h : OwnR w base e v l) (j : Nat) (hj : j < l.length) :
    ∃ g c, v = .slice (some ⟨g, 0, none⟩) l.length c ∧ w.cell? ⟨g, j * 3, none⟩ = some (.int .i64 l[j].k) ∧ w.cell? ⟨g, j * 3 + 1, none⟩ = some (.bool l[j].c) ∧ w.cell? ⟨g, j * 3 + 2, none⟩ = some (.slice l[j].p l[j].n l[j].m) := by
  obtain ⟨g, c, hv, _, _, _, _, hc, _⟩ := h.at_ rfl (by omega)
  obtain ⟨h0, h1, h2⟩ := rowC_get l j hj
  exact ⟨g, c, hv, hc _ _ h0, hc _ _ h1, hc _ _ h2⟩

section
variable {P : Program} (w : World)
/-- append(l, src...) of payloads that lie in a block. -/
theorem wpList_append_raws {ops : Array Oper} {rest : List Oper} {o : Oper} {a : Act} {Q : Exit → Act → World → Prop} (hgd : o.guard = none) (s x : Operand) (t : TypeId)
    (ho : o.op = .call { callee := .builtin .append, args := #[s, x], argTypes := #[t, t] })
    (base : Nat) (e : TypeId) (i : TypeInfo) (z : Value) (ht : P.underlying t = some (.slice e)) (hi : P.info? e = some i) (hz : i.zero = some z)
    (hsize : i.size = 3) (hby : i.bytes = 40) (hzs : z.cells.size = 3) (v : Value) (l : List RawP) (hs : a.eval s = v) (hown : OwnR w base e v l)
    (ad : Addr) (m c : Nat) (r : List RawP) (hx : a.eval x = .slice (some ad) m c) (hm : r.length = m) (hr : ∀ j u, (rowC r)[j]? = some u → w.cell? (ad.add j) = some u) (hb : l.length + m ≤ 1000000) (hbase : base ≤ w.heap.size)
    (h : ∀ v' w', OwnR w' base e v' (l ++ r) → w.grownBy w' v.ownBlock → wpList P ops Q rest (a.put o.dst v') w') : wpList P ops Q (o :: rest) a w := by
  subst hm
  refine wpList_append_own w hgd s x t ho base e i z 3 40 ht hi hz hsize hby hzs (by decide) v l.length (rowC l) hs hown ad r.length c (rowC r) hx (rowC_len r) hr (rowC_one r) (by unfold maxLen; omega) (by omega) hbase ?_
  intro v' w' ho' hg _
  refine h v' w' ?_ hg
  unfold OwnR
  rw [List.length_append, rowC_append]
  exact ho'
end
end Go.Proofs.Ytdlcdegfoadajaa
