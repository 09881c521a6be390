/-
  Rows of certificates that are changed: what spoil keeps.
-/
import Derived.Test.YtkniifopfgeopaaDoorHSchIssG
import Derived.Test.YtkniifopfgeopaaDoorHSchDraw
import Derived.Test.YtkniifopfgeopaaDoorHZ8
import Derived.Test.YtkniifopfgeopaaDoorHZ1
namespace Go.Proofs.YtkniifopfgeopaaDoor
open Go.RowKit
set_option linter.unusedVariables false

def NTc : NestR Ct where
  ts := []
  ok _ _ _ := True
  keep _ _ _ := trivial
  mono _ _ := trivial
theorem patch_app (a t p : List Value) (k : Nat) (h : k + p.length ≤ a.length) : patch (a ++ t) p k = patch a p k ++ t := by
  unfold patch
  rw [List.take_append_of_le_length (by omega), List.drop_append_of_le_length (by omega)]
  simp only [List.append_assoc]
theorem cell_grown {a b : World} {row : Option Nat} (h : a.grownBy b row) (g i : Nat) (u : Value) (hg : a.heap.size ≤ g) : a.grownBy (b.setCell ⟨g, i, none⟩ u) row :=
  ⟨h.os, h.tape, h.output, by rw [show (b.setCell ⟨g, i, none⟩ u).heap.size = b.heap.size by simp [World.setCell]]; exact h.size, fun k hk hne => (Below.heap_setCell _ _ _ _ (by show k ≠ g; omega)).trans (h.block k hk hne)⟩
/-- A whole element is written. -/
theorem RowG.pat {N : NestR Ct} (hN : ∀ w b x, N.ok w b x) {U : World} {base g n c : Nat} {L : List Ct} (h : RowG KCt N U base (.slice (some ⟨g, 0, none⟩) n c) L) (hn : L.length = n) (j : Nat) (hj : j < n) (y : Ct) :
    ∃ cur new, U.heap[g]? = some (.cells cur 37 (0, 0)) ∧ j * 6 + 6 ≤ cur.size ∧ (patch cur.toList (KCt.cs y) (j * 6)).toArray = new ∧ RowG KCt N (U.setRow g new) base (.slice (some ⟨g, 0, none⟩) n c) (L.set j y) := by
  subst hn
  rcases h.own.2 with ⟨e, _⟩ | ⟨g', cap, cur, e, hb, hh, hnc, hm, hs, ht⟩
  · cases e
  · cases e
    have hs' : cur.size = c * 6 := hs
    have ht' : cur.toList.take (L.length * 6) = KCt.row L := ht
    have hrl : (KCt.row L).length = L.length * 6 := KCt.row_len L
    have hp : patch cur.toList (KCt.cs y) (j * 6) = KCt.row (L.set j y) ++ cur.toList.drop (L.length * 6) := by
      conv => lhs; rw [← List.take_append_drop (L.length * 6) cur.toList]
      rw [ht', patch_app _ _ _ _ (by rw [hrl]; show j * 6 + 6 ≤ _; omega), row_patch L j hj y]
    refine ⟨cur, _, hh, by omega, rfl, ⟨by rw [KCt.row_len], Or.inr ⟨g, c, (patch cur.toList (KCt.cs y) (j * 6)).toArray, by rw [List.length_set], hb, setRow_heap U g _ _ _ _ hh, by rw [List.length_set]; exact hnc, hm, ?_, ?_⟩⟩, fun x hx => hN _ _ _⟩
    · rw [List.size_toArray, hp, List.length_append, KCt.row_len, List.length_set, List.length_drop, Array.length_toList]
      show L.length * 6 + (cur.size - L.length * 6) = c * 6
      omega
    · rw [hp, List.length_set]
      show List.take (L.length * 6) _ = _
      rw [List.take_left' (by rw [KCt.row_len, List.length_set]; rfl)]
/-- What spoil keeps. -/
structure SpI (W w U : World) (k g n c B0 M : Nat) (L : List Ct) : Prop where
  cod : Cod W U k
  gr : w.grownBy U (some k)
  row : RowG KCt NTc U w.heap.size (.slice (some ⟨g, 0, none⟩) n c) L
  len : L.length = n
  bod : ∀ x ∈ L, Bod U B0 x.p x.n x.c x.g
  val : ∀ x ∈ L, CtV x
  ln : ∀ x ∈ L, x.n ≤ M
section
variable {W w U U' : World} {k g n c B0 M : Nat} {L : List Ct}
theorem SpI.base (h : SpI W w U k g n c B0 M L) : w.heap.size ≤ g := (h.row.lt g rfl).1
theorem SpI.offB (h : SpI W w U k g n c B0 M L) : OffB U B0 (some g) := fun r hr => by
  have := h.row.offT (ts := [5]) (base' := B0) (by simp [KCt]) r hr
  exact this.imp id (fun h2 cur fz e => h2 cur _ fz e (by simp))
theorem SpI.grown (h : SpI W w U k g n c B0 M L) (hk : k < B0) (hw : B0 ≤ w.heap.size) (hc : Cod W U' k) (hg : U.grownBy U' (some k)) : SpI W w U' k g n c B0 M L :=
  ⟨hc, grown_trans h.gr hg, h.row.low hg (by omega), h.len, fun x hx => (h.bod x hx).grown hg (OffB.low hk), h.val, h.ln⟩
theorem SpI.below (h : SpI W w U k g n c B0 M L) (hb : Below U.heap.size U U') : SpI W w U' k g n c B0 M L :=
  ⟨h.cod.below hb, grown_trans h.gr (grown_of_below hb _), h.row.below hb, h.len, fun x hx => (h.bod x hx).below hb, h.val, h.ln⟩
theorem SpI.cells (h : SpI W w U k g n c B0 M L) (j : Nat) (hj : j < n) : CtAt U g (j * 6) (L.getD j zc) ∧ (∀ i, U.frozen? ⟨g, i, none⟩ = false) := by
  obtain ⟨g', c', e, _, _, _, _, hc, hf⟩ := h.row.at_ h.len (by omega)
  cases e
  have hj' : j < L.length := by rw [h.len]; exact hj
  have e1 : L.getD j zc = L[j] := by rw [List.getD_eq_getElem?_getD, List.getElem?_eq_getElem hj']; rfl
  have hh : ∀ i u, (KCt.cs L[j])[i]? = some u → U.cell? ⟨g, j * 6 + i, none⟩ = some u := fun i u hu => hc _ _ (KCt.row_get L j hj' i u hu)
  rw [e1]
  exact ⟨⟨hh 0 _ rfl, hh 1 _ rfl, hh 2 _ rfl, hh 3 _ rfl, hh 4 _ rfl, hh 5 _ rfl⟩, hf⟩
/-- One cell of one certificate is written. -/
theorem SpI.put (h : SpI W w U k g n c B0 M L) (hk : k < B0) (hw : B0 ≤ w.heap.size) (hW : W.heap.size ≤ B0) (j : Nat) (hj : j < n) (i : Nat) (hi : i < 6) (u : Value) (y : Ct) (hy : KCt.cs y = (KCt.cs (L.getD j zc)).set i u) (hyv : CtV y) (hyn : y.n ≤ M)
    (hyb : Bod U B0 y.p y.n y.c y.g) : SpI W w (U.setCell ⟨g, j * 6 + i, none⟩ u) k g n c B0 M (L.set j y) := by
  have hj' : j < L.length := by rw [h.len]; exact hj
  have e1 : L.getD j zc = L[j] := by rw [List.getD_eq_getElem?_getD, List.getElem?_eq_getElem hj']; rfl
  rw [e1] at hy
  have hg := grown_set U g (j * 6 + i) u
  have hgb := h.base
  refine ⟨h.cod.grown hg (by simp; omega) (fun r e => by cases e; omega), cell_grown h.gr g _ u hgb, h.row.set j hj' i hi u y hy h.len (by simp [NTc]) trivial, by rw [List.length_set]; exact h.len, fun x hx => ?_, fun x hx => ?_, fun x hx => ?_⟩
  · rcases List.mem_or_eq_of_mem_set hx with h1 | rfl
    · exact (h.bod x h1).grown hg h.offB
    · exact hyb.grown hg h.offB
  · rcases List.mem_or_eq_of_mem_set hx with h1 | rfl
    · exact h.val x h1
    · exact hyv
  · rcases List.mem_or_eq_of_mem_set hx with h1 | rfl
    · exact h.ln x h1
    · exact hyn
/-- A whole certificate of the row is written to another place. -/
theorem SpI.pat (h : SpI W w U k g n c B0 M L) (hk : k < B0) (hw : B0 ≤ w.heap.size) (hW : W.heap.size ≤ B0) (j : Nat) (hj : j < n) (y : Ct) (hyv : CtV y) (hyn : y.n ≤ M) (hyb : Bod U B0 y.p y.n y.c y.g) :
    ∃ cur new, U.heap[g]? = some (.cells cur 37 (0, 0)) ∧ j * 6 + 6 ≤ cur.size ∧ (patch cur.toList (KCt.cs y) (j * 6)).toArray = new ∧ SpI W w (U.setRow g new) k g n c B0 M (L.set j y) := by
  obtain ⟨cur, new, h1, h2, h3, h4⟩ := h.row.pat (fun _ _ _ => trivial) h.len j hj y
  have hg := row_grown1 U g new
  have hgb := h.base
  refine ⟨cur, new, h1, h2, h3, h.cod.grown hg (by simp; omega) (fun r e => by cases e; omega), row_grown h.gr g new hgb, h4, by rw [List.length_set]; exact h.len, fun x hx => ?_, fun x hx => ?_, fun x hx => ?_⟩
  · rcases List.mem_or_eq_of_mem_set hx with h1 | rfl
    · exact (h.bod x h1).grown hg h.offB
    · exact hyb.grown hg h.offB
  · rcases List.mem_or_eq_of_mem_set hx with h1 | rfl
    · exact h.val x h1
    · exact hyv
  · rcases List.mem_or_eq_of_mem_set hx with h1 | rfl
    · exact h.ln x h1
    · exact hyn
theorem SpI.mem (h : SpI W w U k g n c B0 M L) (j : Nat) (hj : j < n) : L.getD j zc ∈ L := by
  rw [List.getD_eq_getElem?_getD, List.getElem?_eq_getElem (show j < L.length by rw [h.len]; exact hj)]
  exact List.getElem_mem _
theorem SpI.up (h : SpI W w U k g n c B0 M L) {M' : Nat} (hM : M ≤ M') : SpI W w U k g n c B0 M' L := ⟨h.cod, h.gr, h.row, h.len, h.bod, h.val, fun x hx => Nat.le_trans (h.ln x hx) hM⟩
end
end Go.Proofs.YtkniifopfgeopaaDoor
