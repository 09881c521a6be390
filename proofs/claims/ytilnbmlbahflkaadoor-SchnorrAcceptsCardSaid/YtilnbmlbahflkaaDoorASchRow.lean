/-
  Rows of certificates, and chains in which each one was signed by the owner of the next one's key.
-/
import Derived.Test.YtilnbmlbahflkaaDoorARSchIssue
namespace Go.Proofs.YtilnbmlbahflkaaDoor
open Go.RowKit
set_option linter.unusedVariables false

/-- The row of these certificates, whole. -/
structure RwE (W : World) (g : Nat) (L : List Ct) : Prop where
  heap : W.heap[g]? = some (.cells (KCt.row L).toArray 47 (0, 0))
theorem RwE.lt {W : World} {g : Nat} {L : List Ct} (h : RwE W g L) : g < W.heap.size := (Array.getElem?_eq_some_iff.1 h.heap).1
theorem RwE.grown {W W' : World} {g : Nat} {L : List Ct} {row : Option Nat} (h : RwE W g L) (hg : W.grownBy W' row) (hr : some g ≠ row) : RwE W' g L := ⟨by rw [hg.block g h.lt hr]; exact h.heap⟩
theorem RwE.below {W W' : World} {g : Nat} {L : List Ct} (h : RwE W g L) (hb : Below W.heap.size W W') : RwE W' g L := ⟨by rw [hb.block g h.lt]; exact h.heap⟩
theorem RwE.off {W : World} {g base : Nat} {L : List Ct} (h : RwE W g L) : OffB W base (some g) := fun r hr => Or.inr (fun cur fz e => by
  cases hr
  rw [h.heap] at e
  simp at e)
theorem row_patch (L : List Ct) (j : Nat) (hj : j < L.length) (y : Ct) : patch (KCt.row L) (KCt.cs y) (j * 6) = KCt.row (L.set j y) := by
  have e1 : KCt.row L = KCt.row (L.take j) ++ (KCt.cs L[j] ++ KCt.row (L.drop (j + 1))) := by
    rw [← KCt.row_cons, ← KCt.row_append, List.getElem_cons_drop, List.take_append_drop]
  have e2 : KCt.row (L.set j y) = KCt.row (L.take j) ++ (KCt.cs y ++ KCt.row (L.drop (j + 1))) := by
    rw [List.set_eq_take_append_cons_drop, if_pos hj, KCt.row_append, KCt.row_cons]
  have l1 : (KCt.row (L.take j)).length = j * 6 := by rw [KCt.row_len, List.length_take, Nat.min_eq_left (by omega)]; rfl
  have l2 : (KCt.cs L[j]).length = 6 := rfl
  have l3 : (KCt.cs y).length = 6 := rfl
  unfold patch
  rw [e2, l3]
  conv => lhs; rw [e1]
  rw [List.take_append_of_le_length (by omega), List.take_of_length_le (by omega)]
  have e3 : (KCt.row (L.take j) ++ (KCt.cs L[j] ++ KCt.row (L.drop (j + 1)))).drop (j * 6 + 6) = KCt.row (L.drop (j + 1)) := by
    rw [← List.append_assoc, List.drop_append_of_le_length (by simp; omega), List.drop_of_length_le (by simp; omega), List.nil_append]
  rw [e3, List.append_assoc]
def zc : Ct := ⟨⟨#[]⟩, 0, 0, 0, false, none, 0, 0, []⟩
theorem mk_row (n : Nat) (hn : n = 1 ∨ n = 2 ∨ n = 3) (w : World) : (Instr.makeSlice 40 (.int .i64 n) (.int .i64 n)).run Tryd.prog w = .ok (.slice (some ⟨w.heap.size, 0, none⟩) n n) (w.alloc (.cells (KCt.row (List.replicate n zc)).toArray 47)) := by
  rcases hn with rfl | rfl | rfl <;> kernel_rfl
/-- A certificate as they are drawn. -/
structure CtG (x : Ct) : Prop where
  ok : CtOk x
  f0 : 0 ≤ x.f ∧ x.f < 10
  t0 : 20 ≤ x.t ∧ x.t < 80
  gl : x.g.length = 16
/-- The key that has signed the certificate before this place. -/
def keyAt (A : Nat) (L : List Ct) (j : Nat) : Nat := (L[j]?.map Ct.k).getD A
theorem keyAt_end (A : Nat) (L : List Ct) (j : Nat) (h : L.length ≤ j) : keyAt A L j = A := by unfold keyAt; rw [List.getElem?_eq_none h]; rfl
theorem keyAt_in (A : Nat) (L : List Ct) (j : Nat) (h : j < L.length) : keyAt A L j = L[j].k := by unfold keyAt; rw [List.getElem?_eq_getElem h]; rfl
def SigAt (A : Nat) (L : List Ct) (j : Nat) : Prop := ∀ x, L[j]? = some x → CtG x ∧ (0 < j → x.a = true) ∧ verE (keyAt A L (j + 1)) (bdL x) x.g = 0
theorem sigAt_set (A : Nat) (L : List Ct) (i : Nat) (hi : i < L.length) (y : Ct) (hs : ∀ j, i + 1 ≤ j → SigAt A L j) (hy : CtG y ∧ (0 < i → y.a = true) ∧ verE (keyAt A L (i + 1)) (bdL y) y.g = 0) : ∀ j, i ≤ j → SigAt A (L.set i y) j := by
  intro j hj x hx
  have hk : ∀ m, i < m → keyAt A (L.set i y) m = keyAt A L m := fun m hm => by unfold keyAt; rw [List.getElem?_set_ne (by omega)]
  rw [hk (j + 1) (by omega)]
  by_cases he : j = i
  · subst he
    rw [List.getElem?_set_self hi] at hx
    simp at hx
    subst hx
    exact hy
  · rw [List.getElem?_set_ne (by omega)] at hx
    exact hs j (by omega) x hx
theorem keyAt_set (A : Nat) (L : List Ct) (i : Nat) (hi : i < L.length) (y : Ct) : keyAt A (L.set i y) i = y.k := by unfold keyAt; rw [List.getElem?_set_self hi]; rfl
end Go.Proofs.YtilnbmlbahflkaaDoor
