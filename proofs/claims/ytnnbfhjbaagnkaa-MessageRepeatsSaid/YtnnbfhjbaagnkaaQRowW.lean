/-
  append onto a row of the call's own: where the result lies.
-/
import Derived.Test.YtnnbfhjbaagnkaaQZ0
import Derived.ArgAppend
namespace Go.Proofs.Ytnnbfhjbaagnkaa
open Go.RowKit
set_option linter.unusedVariables false

section
variable {α : Type} {P : Program} {K : KindR α} {N : NestR α} {t : TypeId} {bytes : Nat}
theorem run_append_w (hk : KnownR P K t bytes) (he : K.e ∉ N.ts) (w : World) (base : Nat) (ty : TypeId) (v : Value) (l : List α) (h : RowG K N w base v l) (p : Option Addr) (m c : Nat) (r : List α) (hm : 0 < m) (hs : SrcG K w p m r) (hr : ∀ x ∈ r, N.ok w base x)
    (h63 : l.length + m ≤ maxLen) (hbytes : (l.length + m) * bytes ≤ 140737488355328) (hbase : base ≤ w.heap.size) :
    ∃ v' w', (Builtin.append_ #[t, t] ty #[v, .slice p m c]).run P w = .ok v' w' ∧ RowG K N w' base v' (l ++ r) ∧ w.grownBy w' v.ownBlock ∧ (∀ q, v'.ownBlock = some q → v.ownBlock = some q ∨ w.heap.size ≤ q) := by
  obtain ⟨v', w', hrun, h2, h3⟩ := run_append_g hk he w base ty v l h p m c r hs hr h63 hbytes hbase
  refine ⟨v', w', hrun, h2, h3, ?_⟩
  obtain ⟨i0, z, hi, hz0, hz1, hz2, hz3⟩ := hk.info
  obtain ⟨a, rfl, hc⟩ := hs.2 hm
  have hrl : (K.row r).length = m * K.k := by rw [K.row_len, hs.1]
  rcases h.own.2 with ⟨rfl, hx⟩ | ⟨g, cap, cur, rfl, hb, hh, hnc, hcm, hcs, ht⟩
  · have hl0 : l = [] := List.eq_nil_of_length_eq_zero hx
    subst hl0
    obtain ⟨v2, w2, hrun2, r1, -, -⟩ := run_append_own (P := P) w w.heap.size t ty K.e i0 z K.k bytes hk.under hi hz0 hz1 hz2 hz3 K.pos (.slice none 0 0) 0 [] (World.ownsRow_nil w w.heap.size K.e K.k) a m c (K.row r) hrl hc (K.row_one r) (by simpa using h63) (by simpa using hbytes) (Nat.le_refl _)
    rw [hrun] at hrun2
    injection hrun2 with e1 e2
    subst e1 e2
    exact fun q hq => .inr (World.ownsRow.lt r1 q hq).1
  · by_cases hroom : l.length + m ≤ cap
    · have hex : ∀ j, j < (K.row r).length → (w.cell? ⟨g, 0 + l.length * i0.size + j, none⟩).isSome = true := fun j hj => by
        rw [cell_of_row w g _ _ _ _ hh, hz1, Nat.zero_add]
        have : l.length * K.k + j < cur.size := by
          rw [hcs]
          have h1 : l.length * K.k + (K.row r).length ≤ cap * K.k := by rw [hrl, ← Nat.add_mul]; exact Nat.mul_le_mul_right _ hroom
          omega
        simp [this]
      have hfz : ∀ j, j < (K.row r).length → w.frozen? ⟨g, 0 + l.length * i0.size + j, none⟩ = false := fun j hj => frozen_of_row _ _ _ _ _ hh
      have hrun2 := run_append_room_cells (P := P) w t ty K.e i0 hk.under hi g 0 l.length cap a m c (K.row r) (by rw [hz1]; exact hrl) hc (K.row_one r) hroom hex hfz
      rw [hrun] at hrun2
      injection hrun2 with e1 e2
      subst e1
      exact fun q hq => .inl hq
    · obtain ⟨v2, w2, hrun2, r1, -⟩ := run_append_arg_grows (P := P) w t ty K.e i0 z K.k bytes hk.under hi hz0 hz1 hz2 hz3 K.pos ⟨g, 0, none⟩ l.length cap (K.row l) (K.row_len l) (World.ownsRow.cells h.own (g := g) rfl) a m c (K.row r) hrl hc (by omega) h63 hbytes
      rw [hrun] at hrun2
      injection hrun2 with e1 e2
      subst e1 e2
      exact fun q hq => .inr (World.ownsRow.lt r1 q hq).1
/-- append as one step of a region that draws its order. -/
theorem step_append_w (hk : KnownR P K t bytes) (he : K.e ∉ N.ts) (w : World) {ops : Array Oper} {o : Oper} {a : Act} {C : Act → World → Prop} {Q : Exit → Act → World → Prop} {E : Prop} (hw : Region.wanted o (yielded ops a.tmps) = true) (s x : Operand)
    (ho : o.op = .call { callee := .builtin .append, args := #[s, x], argTypes := #[t, t] })
    (base : Nat) (v : Value) (l : List α) (hs : a.eval s = v) (hv : RowG K N w base v l)
    (p : Option Addr) (m c : Nat) (r : List α) (hx : a.eval x = .slice p m c) (hm : 0 < m) (hsrc : SrcG K w p m r) (hr : ∀ x ∈ r, N.ok w base x) (h63 : l.length + m ≤ maxLen) (hbytes : (l.length + m) * bytes ≤ 140737488355328) (hbase : base ≤ w.heap.size)
    (h : ∀ v' w', Hid (RowG K N w' base v' (l ++ r)) → Hid (w.grownBy w' v.ownBlock) → Hid (∀ q, v'.ownBlock = some q → v.ownBlock = some q ∨ w.heap.size ≤ q) → C (a.put o.dst v') w') : if Region.wanted o (yielded ops a.tmps) = true then Oper.wp P o a w C Q else E := by
  rw [if_pos hw]
  obtain ⟨v', w', hrun, h2, h3, h4⟩ := run_append_w hk he w base o.type v l hv p m c r hm hsrc hr h63 hbytes hbase
  unfold Oper.wp execOp
  simp only [ho, resolve, invoke, builtin, Sem.run_bind, Sem.run_pure, Result.andThen_ok, List.map_toArray, List.map_cons, List.map_nil, hs, hx, hrun]
  exact h v' w' h2 h3 h4
end
end Go.Proofs.Ytnnbfhjbaagnkaa
