/-
  A row of payloads of the call's own, with their bodies: what it is, how it stays, and how it grows.
-/
import Derived.Test.YtdlcdegfoadajaaRaws
import Derived.Test.YtdlcdegfoadajaaBod
namespace Go.Proofs.Ytdlcdegfoadajaa
open Go.RowKit
set_option linter.unusedVariables false

/-- The payload's body lies in a block of bytes of the call's own. -/
def RawP.bod (x : RawP) (w : World) (base : Nat) : Prop := Bod w base x.p x.n x.m x.b
/-- The call's own row v holds the payloads, with their bodies. -/
structure Rws (w : World) (base : Nat) (v : Value) (l : List RawP) : Prop where
  own : OwnR w base 43 v l
  bods : ∀ x ∈ l, x.bod w base

theorem Rws.nil (w : World) (base : Nat) : Rws w base (.slice none 0 0) [] := ⟨OwnR.nil _ _ _, fun x hx => by cases hx⟩
theorem Rws.bodR {w : World} {base : Nat} {v : Value} {l : List RawP} (h : Rws w base v l) : BodR w l := fun x hx => (h.bods x hx).byt
theorem Rws.mono {w : World} {base base' : Nat} {v : Value} {l : List RawP} (h : Rws w base v l) (hb : base' ≤ base) : Rws w base' v l := by
  refine ⟨⟨h.own.1, ?_⟩, fun x hx => (h.bods x hx).mono hb⟩
  rcases h.own.2 with h1 | ⟨g, cap, cur, hv, hg, rest⟩
  · exact Or.inl h1
  · exact Or.inr ⟨g, cap, cur, hv, by omega, rest⟩
/-- The row stays while another row is written that is none of bytes, or lies below. -/
theorem Rws.grown {w w' : World} {base : Nat} {v : Value} {l : List RawP} {row : Option Nat} (h : Rws w base v l) (hg : w.grownBy w' row) (hne : ∀ r, row = some r → v.ownBlock ≠ some r) (hr : OffB w base row) : Rws w' base v l :=
  ⟨World.ownsRow.kept h.own hg (by
    rcases hv : v.ownBlock with _ | b
    · exact Or.inl rfl
    · refine Or.inr ?_
      intro e
      rcases hrow : row with _ | r
      · rw [hrow] at e; cases e
      · rw [hrow] at e
        cases e
        exact hne _ hrow hv), fun x hx => (h.bods x hx).grown hg hr⟩
theorem Rws.low {w w' : World} {base k : Nat} {v : Value} {l : List RawP} (h : Rws w base v l) (hg : w.grownBy w' (some k)) (hk : k < base) : Rws w' base v l :=
  h.grown hg (fun r hr e => by cases hr; have := (h.own.lt k e).1; omega) (OffB.low hk)
theorem Rws.below {w w' : World} {base : Nat} {v : Value} {l : List RawP} (h : Rws w base v l) (hb : Below w.heap.size w w') : Rws w' base v l :=
  h.grown (row := none) ⟨hb.os, hb.tape, hb.output, hb.size, fun i hi _ => hb.block i hi⟩ (fun r hr => by cases hr) (OffB.none _ _)
theorem Rws.alloc {w : World} {base : Nat} {v : Value} {l : List RawP} (h : Rws w base v l) (o : Obj) : Rws (w.alloc o) base v l := h.below ((Below.refl _ w).alloc (Nat.le_refl _) o)
theorem Rws.offB {w : World} {base base' : Nat} {v : Value} {l : List RawP} (h : Rws w base v l) : OffB w base' v.ownBlock := fun r hr => by
  rcases h.own.2 with ⟨rfl, _⟩ | ⟨g, cap, cur, rfl, hg, hh, _⟩
  · simp [Value.ownBlock] at hr
  · simp [Value.ownBlock] at hr
    subst hr
    exact Or.inr (fun cur' fz' e => by rw [hh] at e; simp at e)

/-- The source of an append: so many payloads lie there. -/
def SrcR (w : World) (p : Option Addr) (m : Nat) (r : List RawP) : Prop := r.length = m ∧ (0 < m → ∃ ad, p = some ad ∧ ∀ j u, (rowC r)[j]? = some u → w.cell? (ad.add j) = some u)
theorem Rws.src {w : World} {base : Nat} {p : Option Addr} {m c : Nat} {l : List RawP} (h : Rws w base (.slice p m c) l) : SrcR w p m l := by
  obtain ⟨p', c', e, _⟩ := h.own.form
  simp at e
  obtain ⟨rfl, rfl, rfl⟩ := e
  refine ⟨rfl, fun h0 => ?_⟩
  obtain ⟨g, c', hv, _, _, _, _, hc, _⟩ := h.own.at_ rfl h0
  simp at hv
  obtain ⟨rfl, rfl⟩ := hv
  exact ⟨_, rfl, fun j u hj => by rw [WideShapes.add_plain, Nat.zero_add]; exact hc j u hj⟩
theorem SrcR.one {w : World} {b : Nat} {x : RawP} (h0 : w.cell? ⟨b, 0, none⟩ = some (.int .i64 x.k)) (h1 : w.cell? ⟨b, 1, none⟩ = some (.bool x.c)) (h2 : w.cell? ⟨b, 2, none⟩ = some (.slice x.p x.n x.m)) : SrcR w (some ⟨b, 0, none⟩) 1 [x] :=
  ⟨rfl, fun _ => ⟨_, rfl, fun j u hj => by
    rw [WideShapes.add_plain, Nat.zero_add]
    have hl : j < 3 := by have := (List.getElem?_eq_some_iff.1 hj).1; simpa [rowC, RawP.cells] using this
    have : j = 0 ∨ j = 1 ∨ j = 2 := by omega
    rcases this with rfl | rfl | rfl <;> simp [rowC, RawP.cells] at hj <;> subst hj
    · exact h0
    · exact h1
    · exact h2⟩⟩
theorem SrcR.new (w : World) (k : Int) (c : Bool) (p : Option Addr) (n m : Nat) (b : List Int) (T : TypeId) : SrcR (w.alloc (.cells #[.int .i64 k, .bool c, .slice p n m] T)) (some ⟨w.heap.size, 0, none⟩) 1 [⟨k, c, p, n, m, b⟩] :=
  SrcR.one (by go_simp) (by go_simp) (by go_simp)

theorem Try.infoRaw : (Try.prog.info? 43).map (fun i => (i.zero, i.size, i.bytes)) = some (some (.agg #[.int .i64 0, .bool false, .slice none 0 0]), 3, 40) := by kernel_rfl

theorem run_append_rws (w : World) (base : Nat) (ty : TypeId) (v : Value) (l : List RawP) (h : Rws w base v l) (p : Option Addr) (m c : Nat) (r : List RawP) (hs : SrcR w p m r) (hr : ∀ x ∈ r, x.bod w base) (hb : l.length + m ≤ 1000000) (hbase : base ≤ w.heap.size) :
    ∃ v' w', (Builtin.append_ #[26, 26] ty #[v, .slice p m c]).run Try.prog w = .ok v' w' ∧ Rws w' base v' (l ++ r) ∧ w.grownBy w' v.ownBlock := by
  obtain ⟨i0, hi, hz0, hz1, hz2⟩ := info_parts Try.infoRaw
  have ht := Try.underlying26
  have key : ∀ {w' : World}, w.grownBy w' v.ownBlock → ∀ x ∈ l ++ r, x.bod w' base := fun hg x hx => by
    rcases List.mem_append.1 hx with hx | hx
    · exact (h.bods x hx).grown hg h.offB
    · exact (hr x hx).grown hg h.offB
  cases p with
  | none =>
    have hm : m = 0 := by
      rcases Nat.eq_zero_or_pos m with h0 | h0
      · exact h0
      · obtain ⟨ad, e, _⟩ := hs.2 h0
        cases e
    subst hm
    obtain rfl : r = [] := List.eq_nil_of_length_eq_zero hs.1
    refine ⟨v, w, ?_, by rw [List.append_nil]; exact h, World.grownBy.refl w _⟩
    rcases h.own.2 with ⟨rfl, hx⟩ | ⟨g, cap, cur, rfl, _, _, hnc, _⟩
    · simp [Builtin.append_, run_underlying ht, sizeOf, typeInfo, hi, Builtin.lenOf, Builtin.firstCells]
    · simp [Builtin.append_, run_underlying ht, sizeOf, typeInfo, hi, Builtin.lenOf, Builtin.firstCells, hnc, storeCells]
  | some a =>
    have hcells : ∀ j u, (rowC r)[j]? = some u → w.cell? (a.add j) = some u := by
      intro j u hj
      rcases Nat.eq_zero_or_pos m with h0 | h0
      · have : r = [] := List.eq_nil_of_length_eq_zero (hs.1.trans h0)
        subst this
        simp [rowC] at hj
      · obtain ⟨ad, e, hc⟩ := hs.2 h0
        cases e
        exact hc j u hj
    obtain ⟨v', w', hrun, h2, h3, _⟩ := run_append_own (P := Try.prog) w base 26 ty 43 i0 _ 3 40 ht hi hz0 hz1 hz2 rfl (by decide) v l.length (rowC l) h.own a m c (rowC r) (by rw [rowC_len, hs.1])
      hcells (rowC_one r) (by unfold maxLen; omega) (by omega) hbase
    refine ⟨v', w', hrun, ⟨?_, key h3⟩, h3⟩
    unfold OwnR
    rw [List.length_append, rowC_append, hs.1]
    exact h2

theorem wp_append_rws (w : World) {o : Oper} {a : Act} {K : Act → World → Prop} {Q : Exit → Act → World → Prop} (s x : Operand)
    (ho : o.op = .call { callee := .builtin .append, args := #[s, x], argTypes := #[26, 26] })
    (base : Nat) (v : Value) (l : List RawP) (hs : a.eval s = v) (hv : Rws w base v l)
    (p : Option Addr) (m c : Nat) (r : List RawP) (hx : a.eval x = .slice p m c) (hsrc : SrcR w p m r) (hr : ∀ x ∈ r, x.bod w base) (hb : l.length + m ≤ 1000000) (hbase : base ≤ w.heap.size)
    (h : ∀ v' w', Rws w' base v' (l ++ r) → w.grownBy w' v.ownBlock → K (a.put o.dst v') w') : o.wp Try.prog a w K Q := by
  obtain ⟨v', w', hrun, h2, h3⟩ := run_append_rws w base o.type v l hv p m c r hsrc hr hb hbase
  unfold Oper.wp execOp
  simp only [ho, resolve, invoke, builtin, Sem.run_bind, Sem.run_pure, Result.andThen_ok, List.map_toArray, List.map_cons, List.map_nil, hs, hx, hrun]
  exact h v' w' h2 h3

/-- append(l, r...) as a law of the walk; the operation may stand behind a guard that says yes. -/
theorem wpList_append_rws (w : World) {ops : Array Oper} {rest : List Oper} {o : Oper} {a : Act} {Q : Exit → Act → World → Prop} (hw : Region.wanted o (yielded ops a.tmps) = true) (s x : Operand)
    (ho : o.op = .call { callee := .builtin .append, args := #[s, x], argTypes := #[26, 26] })
    (base : Nat) (v : Value) (l : List RawP) (hs : a.eval s = v) (hv : Rws w base v l)
    (p : Option Addr) (m c : Nat) (r : List RawP) (hx : a.eval x = .slice p m c) (hsrc : SrcR w p m r) (hr : ∀ x ∈ r, x.bod w base) (hb : l.length + m ≤ 1000000) (hbase : base ≤ w.heap.size)
    (h : ∀ v' w', Rws w' base v' (l ++ r) → w.grownBy w' v.ownBlock → wpList Try.prog ops Q rest (a.put o.dst v') w') : wpList Try.prog ops Q (o :: rest) a w := by
  refine wpList_step fun K hK => ?_
  rw [if_pos hw]
  exact wp_append_rws w s x ho base v l hs hv p m c r hx hsrc hr hb hbase fun v' w' h2 h3 => hK _ _ (h v' w' h2 h3)
end Go.Proofs.Ytdlcdegfoadajaa
